/-
  What header.read comes to: told by the plain function.
-/
import Derived.Test.YtneihcdeflfahaaDoorHdG
import Derived.Deep.AppendLies
namespace Go.Proofs.YtneihcdeflfahaaDoor
open Go.RowKit

def fieldCells (f : FieldH) : List Value := [.string (textQ f.1), .string (textQ f.2)]
def fieldsCells (l : List FieldH) : List Value := l.flatMap fieldCells
theorem fields_snoc (l : List FieldH) (f : FieldH) : fieldsCells (l ++ [f]) = fieldsCells l ++ fieldCells f := by simp [fieldsCells]
theorem fields_at : ∀ (l : List FieldH) (i : Nat) (h : i < l.length), (fieldsCells l)[i * 2]? = some (.string (textQ l[i].1)) ∧ (fieldsCells l)[i * 2 + 1]? = some (.string (textQ l[i].2))
  | p :: l, 0, _ => ⟨rfl, rfl⟩
  | p :: l, i + 1, h => by
    have ih := fields_at l i (by simp at h; omega)
    have e : fieldsCells (p :: l) = .string (textQ p.1) :: .string (textQ p.2) :: fieldsCells l := rfl
    rw [e, show (i + 1) * 2 = i * 2 + 1 + 1 by omega]
    exact ih
/-- Fields, as a row of somebody's own. -/
abbrev FieldsOwn (w : World) (B : Nat) (v : Value) (l : List FieldH) : Prop := w.ownsRow B 38 2 v l.length (fieldsCells l)
theorem FieldsOwn.at {w : World} {B : Nat} {v : Value} {l : List FieldH} (h : FieldsOwn w B v l) : FieldsAt w w.heap.size v l := by
  have h2 := h.2
  rcases h2 with ⟨rfl, e⟩ | ⟨g, cap, cur, rfl, hb, hg, h1, h3, _⟩
  · exact ⟨none, 0, by rw [e], by omega, by decide, fun i hi => by omega⟩
  · refine ⟨_, cap, rfl, h1, h3, fun i hi => ⟨g, 0, rfl, (Array.getElem?_eq_some_iff.1 hg).1, ?_⟩⟩
    obtain ⟨q1, q2⟩ := fields_at l i hi
    have c1 := World.ownsRow.cells (g := g) h rfl _ _ q1
    have c2 := World.ownsRow.cells (g := g) h rfl _ _ q2
    rw [Addr.add_lit] at c1 c2
    exact ⟨c1, c2⟩
/-- A field is appended to a row of somebody's own. -/
theorem wpList_append_field {w : World} {ops : Array Oper} {rest : List Oper} {o : Oper} {a : Act} {Q : Exit → Act → World → Prop} (hgd : o.guard = none) (s x : Operand)
    (ho : o.op = .call { callee := .builtin .append, args := #[s, x], argTypes := #[22, 22] }) (B : Nat) (v : Value) (l : List FieldH) (p : FieldH) (hs : a.eval s = v) (hown : FieldsOwn w B v l) (hB : B ≤ w.heap.size) (hl : l.length ≤ 10000000)
    (b c : Nat) (hx : a.eval x = .slice (some ⟨b, 0, none⟩) 1 c) (h0 : w.cell? ⟨b, 0, none⟩ = some (.string (textQ p.1))) (h1 : w.cell? ⟨b, 1, none⟩ = some (.string (textQ p.2)))
    (h : ∀ v' w', FieldsOwn w' B v' (l ++ [p]) → w.grownBy w' v.ownBlock → wpList Tryd.prog ops Q rest (a.put o.dst v') w') : wpList Tryd.prog ops Q (o :: rest) a w := by
  obtain ⟨i0, hi, hz0, hz1, hz2⟩ := info_parts infoField
  refine wpList_append_own w hgd s x 22 ho B 38 i0 (.agg #[.string ⟨#[]⟩, .string ⟨#[]⟩]) 2 32 Tryd.underlying22 hi hz0 hz1 hz2 rfl (by decide) v l.length (fieldsCells l) hs hown ⟨b, 0, none⟩ 1 c (fieldCells p) hx rfl (fun j u hj => ?_) (fun u hu => ?_) (by unfold maxLen; omega) (by omega) hB (fun v' w' q1 q2 _ => ?_)
  · rw [Addr.add_lit, Nat.zero_add]
    match j, hj with
    | 0, hj => cases hj; exact h0
    | 1, hj => cases hj; exact h1
    | j + 2, hj => cases hj
  · simp only [fieldCells, List.mem_cons, List.not_mem_nil, or_false] at hu
    rcases hu with rfl | rfl <;> rfl
  · refine h v' w' ?_ q2
    unfold FieldsOwn
    rw [fields_snoc, List.length_append]
    exact q1
theorem fieldsH_cons (w : TextH) (ws : List TextH) : fieldsH (w :: ws) = match rdP w with
    | none => none
    | some f => (fieldsH ws).map (f :: ·) := by
  rw [fieldsH]
  unfold rdP
  cases fieldH w with
  | none => rfl
  | some f =>
    show (if rightB f = true then _ else none) = match (if rightB f = true then some f else none) with | none => none | some f => _
    split <;> rfl
theorem join_nil (xs : List TextH) : Lib.join xs [] = xs.flatten := by
  unfold Lib.join
  cases xs with
  | nil => rfl
  | cons x xs =>
    induction xs generalizing x with
    | nil => simp [List.intercalate]
    | cons y ys ih =>
      have := ih y
      simp [List.intercalate, List.intersperse] at this ⊢
      rw [this]
theorem texts_take (ls : List TextH) (k : Nat) : (textsF ls).take k = textsF (ls.take k) := by simp [textsF]
theorem texts_drop (ls : List TextH) (k : Nat) : (textsF ls).drop k = textsF (ls.drop k) := by simp [textsF]
theorem texts_data (ls : List TextH) : (textsF ls).map (·.data.toList) = ls := by
  unfold textsF
  rw [List.map_map]
  exact List.map_id' ls
/-- The end of a row of texts. -/
theorem Strs.dropH {w : World} {B b off n c k : Nat} {ss : List ByteArray} (h : Strs w B (some ⟨b, off, none⟩) n c ss) (hk : k ≤ n) (hb : b < B) (c' : Nat) : Strs w B (some ⟨b, off + k, none⟩) (n - k) c' (ss.drop k) := by
  have hl := h.len
  refine ⟨by rw [List.length_drop, hl], .inr ⟨_, rfl, ?_⟩⟩
  rcases Nat.lt_or_ge k n with h1 | h1
  · obtain ⟨b', off', e, hb', hc⟩ := h.at_ h1
    cases e
    refine .inr ⟨b, off + k, rfl, hb, fun j hj => ?_⟩
    rw [Nat.add_assoc, hc (k + j) (by omega)]
    congr 2
    simp only [List.getD, List.getElem?_drop]
  · exact .inl (by omega)
theorem Strs.of_ownC {base n : Nat} {v : Value} {e : TypeId} {w : World} {ss : List ByteArray} (h : w.ownsRow base e 1 v n (ss.map .string)) : ∃ A c, v = .slice A n c ∧ Strs w w.heap.size A n c ss ∧ n ≤ c ∧ c ≤ maxLen := by
  obtain ⟨A, c, rfl, hS⟩ := Strs.of_own h
  refine ⟨A, c, rfl, hS, ?_⟩
  rcases h.2 with ⟨e, e2⟩ | ⟨g, cap, cur, e, hb, hg, hnc, hcm, _⟩
  · cases e
    exact ⟨Nat.le_refl _, by decide⟩
  · cases e
    exact ⟨hnc, hcm⟩

set_option maxRecDepth 100000 in
set_option maxHeartbeats 4000000 in
theorem hread_any (B : Nat) (A : Option Addr) (n c : Nat) (ls : List TextH) (m : Int) (w : World) (h : Strs w B A n c (textsF ls)) (hnc : n ≤ c) (hc : c ≤ maxLen) (hB : B ≤ w.heap.size) (hm : w.cell? ⟨0, 0, none⟩ = some (.int .i64 m)) (hn2 : n ≤ 1000000) (hfl : ls.flatten.length ≤ 1000000) :
    Calls Tryd.prog 28 #[.slice A n c] w fun e w' => ∃ v, e = .returned (.tuple #[v, .bool (fieldsH (joinH ls)).isSome]) ∧ FieldsOwn w' w.heap.size v ((fieldsH (joinH ls)).getD []) ∧ Below w.heap.size w w' := by
  obtain ⟨R, hR⟩ : ∃ R, fieldsH (joinH ls) = R := ⟨_, rfl⟩
  rw [hR]
  have HR := Lib.hid hR
  unfold maxLen at hc
  go_enter Tryd.func28, Tryd.ntmps28
  go_wp2
  go_loopw [0, 4, 5, 6, 7] (fun sv lv _ _ _ wr => ∃ (A' : Option Addr) (n' c' : Nat) (rem : List TextH) (acc : List FieldH), sv = .slice A' n' c' ∧ Strs wr w.heap.size A' n' c' (textsF rem) ∧ n' ≤ c' ∧ c' ≤ c ∧ acc.length + n' ≤ n ∧ Hid (rem.flatten.length ≤ 1000000 ∧ R = (fieldsH (joinH rem)).map (acc ++ ·)) ∧ FieldsOwn wr w.heap.size lv acc ∧ Below w.heap.size w wr) (fun sv _ _ _ _ _ => match sv with | .slice _ k _ => k | _ => 0)
  case atStart => exact ⟨A, n, c, ls, [], rfl, h.more hB, hnc, Nat.le_refl _, by simp, Lib.hid ⟨hfl, by rw [HR.out]; cases R <;> rfl⟩, World.ownsRow_nil _ _ _ _, Below.refl _ _⟩
  case round =>
    obtain ⟨A', n', c', rem, acc, rfl, hS, hnc', hcc, hacc, hst, hown, hbr⟩ := hrel
    have hlen : rem.length = n' := by rw [← hS.len, texts_len]
    have hbz := hbr.size
    by_cases h0 : n' = 0
    · subst h0
      have hrem : rem = [] := List.eq_nil_of_length_eq_zero hlen
      have hRe : R = some acc := by rw [hst.out.2, hrem]; simp [joinH, fieldsH]
      subst hRe
      clear hst hrem hlen
      go_wp2
      go_ret2
      exact ⟨_, rfl, hown, hbr⟩
    · have hpos : 0 < n' := by omega
      obtain ⟨b, off, rfl, hb, hcl⟩ := hS.at_ hpos
      have hne : rem ≠ [] := fun e => h0 (by rw [← hlen, e]; rfl)
      obtain ⟨t1, t2⟩ := tog_le hne
      rw [hlen] at t2
      have htog := htog_any w.heap.size (some ⟨b, off, none⟩) n' c' rem wr hS hbz (by omega) (by omega)
      have hjoin := Tryd.strings_Join b off c' ((textsF rem).take (togH rem)) ⟨#[]⟩ wr (fun j x hj => by
        have hjk : j < togH rem := by
          rcases Nat.lt_or_ge j (togH rem) with h1 | h1
          · exact h1
          · rw [List.getElem?_eq_none (by rw [List.length_take]; omega)] at hj; cases hj
        have h2 := hcl j (by omega)
        rw [List.getElem?_take_of_lt hjk] at hj
        rw [h2]
        simp only [List.getD, hj, Option.getD_some]) (by omega) (by rw [List.length_take]; omega) (by rw [List.length_take]; omega)
      rw [texts_take, texts_data, show (⟨#[]⟩ : ByteArray).data.toList = [] from rfl, join_nil, texts_len, List.length_take, Nat.min_eq_left (by omega)] at hjoin
      have hfl2 : ((rem.take (togH rem)).flatten).length ≤ 1000000 ∧ ((rem.drop (togH rem)).flatten).length ≤ 1000000 := by
        have h1 := hst.out.1
        rw [← List.take_append_drop (togH rem) rem, List.flatten_append, List.length_append] at h1
        omega
      have hjoin := hjoin (by omega)
      obtain ⟨T, hT⟩ : ∃ T, textQ ((rem.take (togH rem)).flatten) = T := ⟨_, rfl⟩
      have hTd : T.data.toList = (rem.take (togH rem)).flatten := by rw [← hT]; rfl
      have hj2 : Calls Tryd.prog 43 #[.slice (some ⟨b, off, none⟩) (togH rem) c', .string ⟨#[]⟩] wr fun e w' => e = .returned (.string T) ∧ Below wr.heap.size wr w' := hjoin.mono fun e w' ⟨h1, h2⟩ => ⟨by rw [h1, ← hT]; rfl, h2⟩
      have hmr := bound_abide hm hbr
      have hrd : Hid (∀ W, Below wr.heap.size wr W → Calls Tryd.prog 42 #[.string T] W fun e w' => e = .returned (rdV (rdP ((rem.take (togH rem)).flatten))) ∧ Below W.heap.size W w') := Lib.hid fun W hW => by
        have := hrdf_any T m W (by
          have : T.size = T.data.toList.length := rfl
          rw [this, hTd]
          omega) (bound_abide hmr hW)
        rw [hTd] at this
        exact this
      have hrest := hS.dropH t2 hb (c' - togH rem)
      rw [texts_drop] at hrest
      have hnext := hst.out.2
      rw [tog_join hne, fieldsH_cons] at hnext
      have hfl3 := hfl2.2
      obtain ⟨k, hk⟩ : ∃ k, togH rem = k := ⟨_, rfl⟩
      obtain ⟨rest, hrs⟩ : ∃ rest, rem.drop k = rest := ⟨_, rfl⟩
      rw [hk] at t1 t2 htog hj2 hrd hrest hnext hfl3
      rw [hrs] at hrest hnext hfl3
      clear hjoin hfl2 hT hTd hst hlen hne hcl hS
      cases hp : rdP ((rem.take k).flatten) with
      | none =>
        rw [hp] at hnext hrd
        have hRe : R = none := hnext
        subst hRe
        have hrd2 : Hid (∀ W, Below wr.heap.size wr W → Calls Tryd.prog 42 #[.string T] W fun e w' => e = .returned (.tuple #[.agg #[.string ⟨#[]⟩, .string ⟨#[]⟩], .bool false]) ∧ Below W.heap.size W w') := hrd
        clear hnext hrest hp hk hrs hrd
        go_wp2_with (first | (go_at_call 41; refine htog.mono ?_; rintro e w1 ⟨rfl, h9⟩; obtain rfl := h9.symm) | (go_at_call 43; refine hj2.mono ?_; rintro e w2 ⟨rfl, hw2⟩) | (go_at_call 42; refine (hrd2.out _ hw2).mono ?_; rintro e w3 ⟨rfl, hw3⟩))
        have hb3 := (hbr.trans (hw2.mono hbz)).trans (hw3.mono (by have := hw2.size; omega))
        go_ret2
        exact ⟨_, rfl, World.ownsRow_nil _ _ _ _, hb3.alloc hb3.size _⟩
      | some f =>
        rw [hp] at hnext hrd
        obtain ⟨X, hX⟩ : ∃ X, textQ f.1 = X := ⟨_, rfl⟩
        obtain ⟨Y, hY⟩ : ∃ Y, textQ f.2 = Y := ⟨_, rfl⟩
        have hrd2 : Hid (∀ W, Below wr.heap.size wr W → Calls Tryd.prog 42 #[.string T] W fun e w' => e = .returned (.tuple #[.agg #[.string X, .string Y], .bool true]) ∧ Below W.heap.size W w') := Lib.hid fun W hW => by
          refine (hrd.out W hW).mono ?_
          rintro e w' ⟨he, hb⟩
          exact ⟨by rw [he, ← hX, ← hY]; rfl, hb⟩
        have hnext2 : Hid (rest.flatten.length ≤ 1000000 ∧ R = (fieldsH (joinH rest)).map ((acc ++ [f]) ++ ·)) := Lib.hid ⟨hfl3, by
          rw [hnext]
          show ((fieldsH (joinH rest)).map (f :: ·)).map (acc ++ ·) = _
          cases fieldsH (joinH rest) <;> simp⟩
        have HX := Lib.hid hX
        have HY := Lib.hid hY
        have Hrest := Lib.hid hrest
        clear hnext hrest hp hk hrs hrd hX hY
        go_wp2_with (first
          | (go_at_call 41; refine htog.mono ?_; rintro e w1 ⟨rfl, h9⟩; obtain rfl := h9.symm)
          | (go_at_call 43; refine hj2.mono ?_; rintro e w2 ⟨rfl, hw2⟩)
          | (go_at_call 42; refine (hrd2.out _ hw2).mono ?_; rintro e w3 ⟨rfl, hw3⟩; have hb3 := (hbr.trans (hw2.mono hbz)).trans (hw3.mono (by have := hw2.size; omega)); have happ := World.ownsRow.alloc (World.ownsRow.alloc (ownsRow_below4 (ownsRow_below4 hown hw2) hw3) (.cells #[.string X, .string Y] 38)) (.cells #[.string X, .string Y] 38); have zz := World.size_alloc w3 (.cells #[.string X, .string Y] 38); have hbb := hb3.size; have hh := heap_alloc_new (w3.alloc (.cells #[.string X, .string Y] 38)) (.cells #[.string X, .string Y] 38); have z0 : ((w3.alloc (.cells #[.string X, .string Y] 38)).alloc (.cells #[.string X, .string Y] 38)).cell? ⟨w3.heap.size + 1, 0, none⟩ = some (.string (textQ f.1)) := (by rw [HX.out]; rw [zz] at hh; exact Lib.cell_of_heap hh 0); have z1 : ((w3.alloc (.cells #[.string X, .string Y] 38)).alloc (.cells #[.string X, .string Y] 38)).cell? ⟨w3.heap.size + 1, 1, none⟩ = some (.string (textQ f.2)) := (by rw [HY.out]; rw [zz] at hh; exact Lib.cell_of_heap hh 1); clear hh)
          | (at_builtin; refine wpList_append_field rfl _ _ rfl w.heap.size u4 acc f rfl happ (by simp; omega) (by omega) (w3.heap.size + 1) 1 rfl z0 z1 ?_))
        intro v6 w6 hown6 hgrow6
        have hq : Below w.heap.size wr w6 := (((((hw2.mono hbz).trans (hw3.mono (by have := hw2.size; omega))).alloc hbb _).alloc (by simp; omega) _).grown hgrow6 (by simp; omega) fun q hk => (row_block happ hk).1)
        have hb6 := hbr.trans hq
        have hS6 := Hrest.out.below hq
        clear happ hown hgrow6 z0 z1 hw2 hw3 hb3 htog hj2
        go_wp2
        have hS7 : Strs w6 w.heap.size (if c' = k then some ⟨b, off, none⟩ else some ⟨b, off + k, none⟩) (n' - k) (c' - k) (textsF rest) := by
          split
          · exact ⟨hS6.1, .inr ⟨_, rfl, .inl (by omega)⟩⟩
          · exact hS6
        go_roundw
        case rel => exact ⟨_, n' - k, c' - k, rest, acc ++ [f], rfl, hS7, by omega, by omega, by simp; omega, hnext2, hown6, hb6⟩
        case measure => show n' - k < n'; omega
end Go.Proofs.YtneihcdeflfahaaDoor
