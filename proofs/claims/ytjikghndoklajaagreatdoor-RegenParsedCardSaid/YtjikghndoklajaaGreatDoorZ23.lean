/-
  Texts of this proof, put together: HdH, HdI.
-/
import Derived.Test.YtjikghndoklajaaGreatDoorZ22
import Derived.Deep.AppendLies
namespace Go.Proofs.YtjikghndoklajaaGreatDoor
open Go.RowKit

def fieldCells (f : FieldH) : List Value := [.string (textQ f.1), .string (textQ f.2)]
def fieldsCells (l : List FieldH) : List Value := l.flatMap fieldCells
theorem fields_snoc (l : List FieldH) (f : FieldH) : fieldsCells (l ++ [f]) = fieldsCells l ++ fieldCells f := by simp [fieldsCells]
theorem fields_at : ∀ (l : List FieldH) (i : Nat) (h : i < l.length), (fieldsCells l)[i * 2]? = some (.string (textQ l[i].1)) ∧ (fieldsCells l)[i * 2 + 1]? = some (.string (textQ l[i].2))
  | p :: l, 0, _ => ⟨rfl, rfl⟩
  | p :: l, i + 1, h => by
    have ih := fields_at l i (by simp at h; omega)
    have e : fieldsCells (p :: l) = .string (textQ p.1) :: .string (textQ p.2) :: fieldsCells l := rfl
    rw [e, show (i + 1) * 2 = i * 2 + 1 + 1 by omega]
    exact ih
abbrev FieldsOwn (w : World) (B : Nat) (v : Value) (l : List FieldH) : Prop := w.ownsRow B 38 2 v l.length (fieldsCells l)
theorem FieldsOwn.at {w : World} {B : Nat} {v : Value} {l : List FieldH} (h : FieldsOwn w B v l) : FieldsAt w w.heap.size v l := by
  have h2 := h.2
  rcases h2 with ⟨rfl, e⟩ | ⟨g, cap, cur, rfl, hb, hg, h1, h3, _⟩
  · exact ⟨none, 0, by rw [e], by omega, by decide, fun i hi => by omega⟩
  · refine ⟨_, cap, rfl, h1, h3, fun i hi => ⟨g, 0, rfl, (Array.getElem?_eq_some_iff.1 hg).1, ?_⟩⟩
    obtain ⟨q1, q2⟩ := fields_at l i hi
    have c1 := World.ownsRow.cells (g := g) h rfl _ _ q1
    have c2 := World.ownsRow.cells (g := g) h rfl _ _ q2
    rw [Addr.add_lit] at c1 c2
    exact ⟨c1, c2⟩
theorem wpList_append_field {w : World} {ops : Array Oper} {rest : List Oper} {o : Oper} {a : Act} {Q : Exit → Act → World → Prop} (hgd : o.guard = none) (s x : Operand)
    (ho : o.op = .call { callee := .builtin .append, args := #[s, x], argTypes := #[23, 23] }) (B : Nat) (v : Value) (l : List FieldH) (p : FieldH) (hs : a.eval s = v) (hown : FieldsOwn w B v l) (hB : B ≤ w.heap.size) (hl : l.length ≤ 10000000)
    (b c : Nat) (hx : a.eval x = .slice (some ⟨b, 0, none⟩) 1 c) (h0 : w.cell? ⟨b, 0, none⟩ = some (.string (textQ p.1))) (h1 : w.cell? ⟨b, 1, none⟩ = some (.string (textQ p.2)))
    (h : ∀ v' w', FieldsOwn w' B v' (l ++ [p]) → w.grownBy w' v.ownBlock → wpList Tryz.prog ops Q rest (a.put o.dst v') w') : wpList Tryz.prog ops Q (o :: rest) a w := by
  obtain ⟨i0, hi, hz0, hz1, hz2⟩ := info_parts infoField
  refine wpList_append_own w hgd s x 23 ho B 38 i0 (.agg #[.string ⟨#[]⟩, .string ⟨#[]⟩]) 2 32 Tryz.underlying23 hi hz0 hz1 hz2 rfl (by decide) v l.length (fieldsCells l) hs hown ⟨b, 0, none⟩ 1 c (fieldCells p) hx rfl (fun j u hj => ?_) (fun u hu => ?_) (by unfold maxLen; omega) (by omega) hB (fun v' w' q1 q2 _ => ?_)
  · rw [Addr.add_lit, Nat.zero_add]
    match j, hj with
    | 0, hj => cases hj; exact h0
    | 1, hj => cases hj; exact h1
    | j + 2, hj => cases hj
  · simp only [fieldCells, List.mem_cons, List.not_mem_nil, or_false] at hu
    rcases hu with rfl | rfl <;> rfl
  · refine h v' w' ?_ q2
    unfold FieldsOwn
    rw [fields_snoc, List.length_append]
    exact q1
theorem fieldsH_cons (w : TextH) (ws : List TextH) : fieldsH (w :: ws) = match rdP w with
    | none => none
    | some f => (fieldsH ws).map (f :: ·) := by
  rw [fieldsH]
  unfold rdP
  cases fieldH w with
  | none => rfl
  | some f =>
    show (if rightB f = true then _ else none) = match (if rightB f = true then some f else none) with | none => none | some f => _
    split <;> rfl
theorem join_nil (xs : List TextH) : Lib.join xs [] = xs.flatten := by
  unfold Lib.join
  cases xs with
  | nil => rfl
  | cons x xs =>
    induction xs generalizing x with
    | nil => simp [List.intercalate]
    | cons y ys ih =>
      have := ih y
      simp [List.intercalate, List.intersperse] at this ⊢
      rw [this]
theorem texts_take (ls : List TextH) (k : Nat) : (textsF ls).take k = textsF (ls.take k) := by simp [textsF]
theorem texts_drop (ls : List TextH) (k : Nat) : (textsF ls).drop k = textsF (ls.drop k) := by simp [textsF]
theorem texts_data (ls : List TextH) : (textsF ls).map (·.data.toList) = ls := by
  unfold textsF
  rw [List.map_map]
  exact List.map_id' ls
theorem Strs.dropH {w : World} {B b off n c k : Nat} {ss : List ByteArray} (h : Strs w B (some ⟨b, off, none⟩) n c ss) (hk : k ≤ n) (hb : b < B) (c' : Nat) : Strs w B (some ⟨b, off + k, none⟩) (n - k) c' (ss.drop k) := by
  have hl := h.len
  refine ⟨by rw [List.length_drop, hl], .inr ⟨_, rfl, ?_⟩⟩
  rcases Nat.lt_or_ge k n with h1 | h1
  · obtain ⟨b', off', e, hb', hc⟩ := h.at_ h1
    cases e
    refine .inr ⟨b, off + k, rfl, hb, fun j hj => ?_⟩
    rw [Nat.add_assoc, hc (k + j) (by omega)]
    congr 2
    simp only [List.getD, List.getElem?_drop]
  · exact .inl (by omega)
theorem Strs.of_ownC {base n : Nat} {v : Value} {e : TypeId} {w : World} {ss : List ByteArray} (h : w.ownsRow base e 1 v n (ss.map .string)) : ∃ A c, v = .slice A n c ∧ Strs w w.heap.size A n c ss ∧ n ≤ c ∧ c ≤ maxLen := by
  obtain ⟨A, c, rfl, hS⟩ := Strs.of_own h
  refine ⟨A, c, rfl, hS, ?_⟩
  rcases h.2 with ⟨e, e2⟩ | ⟨g, cap, cur, e, hb, hg, hnc, hcm, _⟩
  · cases e
    exact ⟨Nat.le_refl _, by decide⟩
  · cases e
    exact ⟨hnc, hcm⟩

set_option maxRecDepth 100000 in
set_option maxHeartbeats 4000000 in
theorem hread_any (B : Nat) (A : Option Addr) (n c : Nat) (ls : List TextH) (m : Int) (w : World) (h : Strs w B A n c (textsF ls)) (hnc : n ≤ c) (hc : c ≤ maxLen) (hB : B ≤ w.heap.size) (hm : w.cell? ⟨0, 0, none⟩ = some (.int .i64 m)) (hn2 : n ≤ 1000000) (hfl : ls.flatten.length ≤ 1000000) :
    Calls Tryz.prog 37 #[.slice A n c] w fun e w' => ∃ v, e = .returned (.tuple #[v, .bool (fieldsH (joinH ls)).isSome]) ∧ FieldsOwn w' w.heap.size v ((fieldsH (joinH ls)).getD []) ∧ Below w.heap.size w w' := by
  obtain ⟨R, hR⟩ : ∃ R, fieldsH (joinH ls) = R := ⟨_, rfl⟩
  rw [hR]
  have HR := Lib.hid hR
  unfold maxLen at hc
  go_enter Tryz.func37, Tryz.ntmps37
  go_wp2
  go_loopw [0, 4, 5, 6, 7] (fun sv lv _ _ _ wr => ∃ (A' : Option Addr) (n' c' : Nat) (rem : List TextH) (acc : List FieldH), sv = .slice A' n' c' ∧ Strs wr w.heap.size A' n' c' (textsF rem) ∧ n' ≤ c' ∧ c' ≤ c ∧ acc.length + n' ≤ n ∧ Hid (rem.flatten.length ≤ 1000000 ∧ R = (fieldsH (joinH rem)).map (acc ++ ·)) ∧ FieldsOwn wr w.heap.size lv acc ∧ Below w.heap.size w wr) (fun sv _ _ _ _ _ => match sv with | .slice _ k _ => k | _ => 0)
  case atStart => exact ⟨A, n, c, ls, [], rfl, h.more hB, hnc, Nat.le_refl _, by simp, Lib.hid ⟨hfl, by rw [HR.out]; cases R <;> rfl⟩, World.ownsRow_nil _ _ _ _, Below.refl _ _⟩
  case round =>
    obtain ⟨A', n', c', rem, acc, rfl, hS, hnc', hcc, hacc, hst, hown, hbr⟩ := hrel
    have hlen : rem.length = n' := by rw [← hS.len, texts_len]
    have hbz := hbr.size
    by_cases h0 : n' = 0
    · subst h0
      have hrem : rem = [] := List.eq_nil_of_length_eq_zero hlen
      have hRe : R = some acc := by rw [hst.out.2, hrem]; simp [joinH, fieldsH]
      subst hRe
      clear hst hrem hlen
      go_wp2
      go_ret2
      exact ⟨_, rfl, hown, hbr⟩
    · have hpos : 0 < n' := by omega
      obtain ⟨b, off, rfl, hb, hcl⟩ := hS.at_ hpos
      have hne : rem ≠ [] := fun e => h0 (by rw [← hlen, e]; rfl)
      obtain ⟨t1, t2⟩ := tog_le hne
      rw [hlen] at t2
      have htog := htog_any w.heap.size (some ⟨b, off, none⟩) n' c' rem wr hS hbz (by omega) (by omega)
      have hjoin := Tryz.strings_Join b off c' ((textsF rem).take (togH rem)) ⟨#[]⟩ wr (fun j x hj => by
        have hjk : j < togH rem := by
          rcases Nat.lt_or_ge j (togH rem) with h1 | h1
          · exact h1
          · rw [List.getElem?_eq_none (by rw [List.length_take]; omega)] at hj; cases hj
        have h2 := hcl j (by omega)
        rw [List.getElem?_take_of_lt hjk] at hj
        rw [h2]
        simp only [List.getD, hj, Option.getD_some]) (by omega) (by rw [List.length_take]; omega) (by rw [List.length_take]; omega)
      rw [texts_take, texts_data, show (⟨#[]⟩ : ByteArray).data.toList = [] from rfl, join_nil, texts_len, List.length_take, Nat.min_eq_left (by omega)] at hjoin
      have hfl2 : ((rem.take (togH rem)).flatten).length ≤ 1000000 ∧ ((rem.drop (togH rem)).flatten).length ≤ 1000000 := by
        have h1 := hst.out.1
        rw [← List.take_append_drop (togH rem) rem, List.flatten_append, List.length_append] at h1
        omega
      have hjoin := hjoin (by omega)
      obtain ⟨T, hT⟩ : ∃ T, textQ ((rem.take (togH rem)).flatten) = T := ⟨_, rfl⟩
      have hTd : T.data.toList = (rem.take (togH rem)).flatten := by rw [← hT]; rfl
      have hj2 : Calls Tryz.prog 64 #[.slice (some ⟨b, off, none⟩) (togH rem) c', .string ⟨#[]⟩] wr fun e w' => e = .returned (.string T) ∧ Below wr.heap.size wr w' := hjoin.mono fun e w' ⟨h1, h2⟩ => ⟨by rw [h1, ← hT]; rfl, h2⟩
      have hmr := bound_abide hm hbr
      have hrd : Hid (∀ W, Below wr.heap.size wr W → Calls Tryz.prog 63 #[.string T] W fun e w' => e = .returned (rdV (rdP ((rem.take (togH rem)).flatten))) ∧ Below W.heap.size W w') := Lib.hid fun W hW => by
        have := hrdf_any T m W (by
          have : T.size = T.data.toList.length := rfl
          rw [this, hTd]
          omega) (bound_abide hmr hW)
        rw [hTd] at this
        exact this
      have hrest := hS.dropH t2 hb (c' - togH rem)
      rw [texts_drop] at hrest
      have hnext := hst.out.2
      rw [tog_join hne, fieldsH_cons] at hnext
      have hfl3 := hfl2.2
      obtain ⟨k, hk⟩ : ∃ k, togH rem = k := ⟨_, rfl⟩
      obtain ⟨rest, hrs⟩ : ∃ rest, rem.drop k = rest := ⟨_, rfl⟩
      rw [hk] at t1 t2 htog hj2 hrd hrest hnext hfl3
      rw [hrs] at hrest hnext hfl3
      clear hjoin hfl2 hT hTd hst hlen hne hcl hS
      cases hp : rdP ((rem.take k).flatten) with
      | none =>
        rw [hp] at hnext hrd
        have hRe : R = none := hnext
        subst hRe
        have hrd2 : Hid (∀ W, Below wr.heap.size wr W → Calls Tryz.prog 63 #[.string T] W fun e w' => e = .returned (.tuple #[.agg #[.string ⟨#[]⟩, .string ⟨#[]⟩], .bool false]) ∧ Below W.heap.size W w') := hrd
        clear hnext hrest hp hk hrs hrd
        go_wp2_with (first | (go_at_call 62; refine htog.mono ?_; rintro e w1 ⟨rfl, h9⟩; obtain rfl := h9.symm) | (go_at_call 64; refine hj2.mono ?_; rintro e w2 ⟨rfl, hw2⟩) | (go_at_call 63; refine (hrd2.out _ hw2).mono ?_; rintro e w3 ⟨rfl, hw3⟩))
        have hb3 := (hbr.trans (hw2.mono hbz)).trans (hw3.mono (by have := hw2.size; omega))
        go_ret2
        exact ⟨_, rfl, World.ownsRow_nil _ _ _ _, hb3.alloc hb3.size _⟩
      | some f =>
        rw [hp] at hnext hrd
        obtain ⟨X, hX⟩ : ∃ X, textQ f.1 = X := ⟨_, rfl⟩
        obtain ⟨Y, hY⟩ : ∃ Y, textQ f.2 = Y := ⟨_, rfl⟩
        have hrd2 : Hid (∀ W, Below wr.heap.size wr W → Calls Tryz.prog 63 #[.string T] W fun e w' => e = .returned (.tuple #[.agg #[.string X, .string Y], .bool true]) ∧ Below W.heap.size W w') := Lib.hid fun W hW => by
          refine (hrd.out W hW).mono ?_
          rintro e w' ⟨he, hb⟩
          exact ⟨by rw [he, ← hX, ← hY]; rfl, hb⟩
        have hnext2 : Hid (rest.flatten.length ≤ 1000000 ∧ R = (fieldsH (joinH rest)).map ((acc ++ [f]) ++ ·)) := Lib.hid ⟨hfl3, by
          rw [hnext]
          show ((fieldsH (joinH rest)).map (f :: ·)).map (acc ++ ·) = _
          cases fieldsH (joinH rest) <;> simp⟩
        have HX := Lib.hid hX
        have HY := Lib.hid hY
        have Hrest := Lib.hid hrest
        clear hnext hrest hp hk hrs hrd hX hY
        go_wp2_with (first
          | (go_at_call 62; refine htog.mono ?_; rintro e w1 ⟨rfl, h9⟩; obtain rfl := h9.symm)
          | (go_at_call 64; refine hj2.mono ?_; rintro e w2 ⟨rfl, hw2⟩)
          | (go_at_call 63; refine (hrd2.out _ hw2).mono ?_; rintro e w3 ⟨rfl, hw3⟩; have hb3 := (hbr.trans (hw2.mono hbz)).trans (hw3.mono (by have := hw2.size; omega)); have happ := World.ownsRow.alloc (World.ownsRow.alloc (ownsRow_below4 (ownsRow_below4 hown hw2) hw3) (.cells #[.string X, .string Y] 38)) (.cells #[.string X, .string Y] 38); have zz := World.size_alloc w3 (.cells #[.string X, .string Y] 38); have hbb := hb3.size; have hh := heap_alloc_new (w3.alloc (.cells #[.string X, .string Y] 38)) (.cells #[.string X, .string Y] 38); have z0 : ((w3.alloc (.cells #[.string X, .string Y] 38)).alloc (.cells #[.string X, .string Y] 38)).cell? ⟨w3.heap.size + 1, 0, none⟩ = some (.string (textQ f.1)) := (by rw [HX.out]; rw [zz] at hh; exact Lib.cell_of_heap hh 0); have z1 : ((w3.alloc (.cells #[.string X, .string Y] 38)).alloc (.cells #[.string X, .string Y] 38)).cell? ⟨w3.heap.size + 1, 1, none⟩ = some (.string (textQ f.2)) := (by rw [HY.out]; rw [zz] at hh; exact Lib.cell_of_heap hh 1); clear hh)
          | (at_builtin; refine wpList_append_field rfl _ _ rfl w.heap.size u4 acc f rfl happ (by simp; omega) (by omega) (w3.heap.size + 1) 1 rfl z0 z1 ?_))
        intro v6 w6 hown6 hgrow6
        have hq : Below w.heap.size wr w6 := (((((hw2.mono hbz).trans (hw3.mono (by have := hw2.size; omega))).alloc hbb _).alloc (by simp; omega) _).grown hgrow6 (by simp; omega) fun q hk => (row_block happ hk).1)
        have hb6 := hbr.trans hq
        have hS6 := Hrest.out.below hq
        clear happ hown hgrow6 z0 z1 hw2 hw3 hb3 htog hj2
        go_wp2
        have hS7 : Strs w6 w.heap.size (if c' = k then some ⟨b, off, none⟩ else some ⟨b, off + k, none⟩) (n' - k) (c' - k) (textsF rest) := by
          split
          · exact ⟨hS6.1, .inr ⟨_, rfl, .inl (by omega)⟩⟩
          · exact hS6
        go_roundw
        case rel => exact ⟨_, n' - k, c' - k, rest, acc ++ [f], rfl, hS7, by omega, by omega, by simp; omega, hnext2, hown6, hb6⟩
        case measure => show n' - k < n'; omega
end Go.Proofs.YtjikghndoklajaaGreatDoor
namespace Go.Proofs.YtjikghndoklajaaGreatDoor
open Go.RowKit

theorem flat_end : ∀ ls : List TextH, ls.flatten.length ≤ (endH ls).length
  | [] => Nat.le_refl _
  | l :: ls => by
    have := flat_end ls
    rw [List.flatten_cons, end_cons, List.length_append, List.length_append, List.length_append]
    omega
theorem lines_end_of {h : TextH} {ls : List TextH} (hl : linesQ h = ls ++ [[]]) : h = endH ls := by
  have e := join_lines h
  rw [hl, join_whole, List.append_nil] at e
  exact e.symm
theorem cut_top (s : TextH) : (cutP s = none ∧ topH (s.length + 1) s = none) ∨
    ∃ (h rest : TextH) (ls : List TextH), cutP s = some (h, rest) ∧ linesQ h = ls ++ [[]] ∧ topH (s.length + 1) s = some (ls, rest) ∧ h.length ≤ s.length ∧ rest.length ≤ s.length ∧ ls.flatten.length ≤ s.length ∧ ls.length ≤ s.length := by
  have hcount : ∀ (h : TextH) (ls : List TextH), linesQ h = ls ++ [[]] → h.length ≤ s.length → ls.flatten.length ≤ s.length ∧ ls.length ≤ s.length := fun h ls h1 h2 => by
    have h3 := flat_end ls
    have h4 := end_len ls
    rw [← lines_end_of h1] at h3 h4
    omega
  unfold cutP
  by_cases hp : Lib.hasPrefix s [13, 10] = true
  · obtain ⟨t, rfl⟩ := (starts_iff s).2 hp
    rw [if_pos hp]
    refine .inr ⟨[], t, [], rfl, rfl, top_starts _ t, by simp, by simp; omega, ?_⟩
    exact hcount [] [] rfl (by simp)
  · rw [if_neg hp]
    rcases top_cut (s.length + 1) s (by omega) (fun h => hp ((starts_iff s).1 h)) with ⟨h1, h2⟩ | ⟨i, ls, h1, h2, h3, h4, h5⟩
    · exact .inl ⟨by rw [if_pos h1], h2⟩
    · rw [if_neg (by omega), h1]
      refine .inr ⟨_, _, ls, rfl, h4, h3, by rw [List.length_take]; omega, by rw [List.length_drop]; omega, ?_⟩
      exact hcount _ ls h4 (by rw [List.length_take]; omega)
def ParsePost (s : TextH) (w : World) (e : Ending) (w' : World) : Prop :=
  ∃ v, e = .returned (.tuple #[v, .string (textQ (parseH s).1.2), .int .i64 (parseH s).2]) ∧ FieldsOwn w' w.heap.size v (parseH s).1.1 ∧ Below w.heap.size w w'
theorem post_bad {s : TextH} {c : Int} {w w' : World} (h : parseH s = (([], []), c)) (hb : Below w.heap.size w w') : ParsePost s w (.returned (.tuple #[.slice none 0 0, .string ⟨#[]⟩, .int .i64 c])) w' := by
  unfold ParsePost
  rw [h]
  exact ⟨_, rfl, World.ownsRow_nil _ _ _ _, hb⟩

set_option maxRecDepth 100000 in
set_option maxHeartbeats 4000000 in
theorem hparse_any (s : ByteArray) (m : Int) (w : World) (hs : s.size ≤ 1000000) (hm : w.cell? ⟨0, 0, none⟩ = some (.int .i64 m)) :
    Calls Tryz.prog 22 #[.string s] w (ParsePost s.data.toList w) := by
  have hl : s.data.toList.length = s.size := rfl
  have hcut := hcut_any s m w (by omega) hm
  have hpl := parse_plain s.data.toList
  rcases cut_top s.data.toList with ⟨h1, h2⟩ | ⟨hd, rest, ls, h1, h2, h3, h4, h5, h6, h7⟩
  · rw [h1] at hcut
    rw [h2] at hpl
    have hcut2 : Calls Tryz.prog 35 #[.string s] w fun e w' => e = .returned (.tuple #[.string ⟨#[]⟩, .string ⟨#[]⟩, .bool false]) ∧ Below w.heap.size w w' := hcut
    have Hpl := Lib.hid hpl
    clear hpl hcut h1 h2
    go_enter Tryz.func22, Tryz.ntmps22
    go_wp2_with (go_at_call 35; refine hcut2.mono ?_; rintro e w1 ⟨rfl, hw1⟩)
    go_ret3
    exact post_bad Hpl.out hw1
  · rw [h1] at hcut
    rw [h3] at hpl
    obtain ⟨H, hH⟩ : ∃ H, textQ hd = H := ⟨_, rfl⟩
    obtain ⟨T, hT⟩ : ∃ T, textQ rest = T := ⟨_, rfl⟩
    have hHs : H.size ≤ 1000000 := by rw [← hH]; show hd.length ≤ _; omega
    have hTs : T.size ≤ 1000000 := by rw [← hT]; show rest.length ≤ _; omega
    have hcut2 : Calls Tryz.prog 35 #[.string s] w fun e w' => e = .returned (.tuple #[.string H, .string T, .bool true]) ∧ Below w.heap.size w w' := by
      refine hcut.mono ?_
      rintro e w' ⟨he, hb⟩
      exact ⟨by rw [he, ← hH, ← hT]; rfl, hb⟩
    have hlin : Hid (∀ W, Below w.heap.size w W → Calls Tryz.prog 36 #[.string H] W fun e w' => ∃ A c, e = .returned (.tuple #[.slice A ls.length c, .int .i64 0]) ∧ Hid (Strs w' w'.heap.size A ls.length c (textsF ls) ∧ ls.length ≤ c ∧ c ≤ maxLen) ∧ Below W.heap.size W w') := Lib.hid fun W hW => by
      refine (flines_any H m ls [] W hHs (bound_abide hm hW) (by rw [← hH]; exact h2)).mono ?_
      rintro e w' ⟨v, he, hown, hb⟩
      obtain ⟨A, c, rfl, q1, q2, q3⟩ := Strs.of_ownC hown
      exact ⟨A, c, he, Lib.hid ⟨q1, q2, q3⟩, hb⟩
    have Hpl := Lib.hid hpl
    have HT := Lib.hid hT
    have Hm := Lib.hid hm
    obtain ⟨n, hn⟩ : ∃ n, ls.length = n := ⟨_, rfl⟩
    have Hn := Lib.hid hn
    rw [hn] at h7
    simp only [hn] at hlin
    clear hpl hcut h1 h2 h3 hH hT hn
    go_enter Tryz.func22, Tryz.ntmps22
    go_wp2_with (first | (go_at_call 35; refine hcut2.mono ?_; rintro e w1 ⟨rfl, hw1⟩) | (go_at_call 36; refine (hlin.out _ hw1).mono ?_; rintro e w2 ⟨A, c, rfl, hS, hw2⟩; have hb2 := hw1.trans (hw2.mono hw1.size); clear hw2 hw1))
    go_loopw [11, 31] (fun _ iv wr => ∃ i : Nat, i ≤ n ∧ iv = .int .i64 i ∧ wr = w2 ∧ Hid (∀ j (hj : j < ls.length), j < i → ls[j].length ≤ 998)) (fun _ iv _ => n - (intOf iv).toNat)
    case atStart => exact ⟨0, by omega, rfl, rfl, Lib.hid (fun j _ h => by omega)⟩
    case round =>
      obtain ⟨i, hi, rfl, rfl, hall⟩ := hrel
      by_cases hlt : i < n
      · have hil : i < ls.length := by rw [Hn.out]; exact hlt
        obtain ⟨b, off, rfl, hb, hcl⟩ := hS.out.1.at_ hlt
        have hc := hcl i hlt
        rw [texts_get ls i hil] at hc
        have hbad : Hid (998 < ls[i].length → longH ls = true) := Lib.hid fun h => by
          unfold longH
          rw [List.any_eq_true]
          exact ⟨ls[i], List.getElem_mem hil, decide_eq_true h⟩
        have hyes : Hid (¬ 998 < ls[i].length → ∀ j (hj : j < ls.length), j < i + 1 → ls[j].length ≤ 998) := Lib.hid fun h j hj h3 => by
          rcases Nat.lt_or_ge j i with h4 | h4
          · exact hall.out j hj h4
          · obtain rfl : j = i := by omega
            omega
        obtain ⟨X, hX⟩ : ∃ X, textQ ls[i] = X := ⟨_, rfl⟩
        have hXs : X.size = ls[i].length := by rw [← hX]; rfl
        rw [hX] at hc
        rw [← hXs] at hbad hyes
        clear hX hXs hcl hil hall
        by_cases h998 : 998 < X.size
        · have Hb := Lib.hid (hbad.out h998)
          have Hr : Hid (parseH s.data.toList = (([], []), 3)) := Lib.hid (by
            rw [Hpl.out]
            show (if longH ls = true then _ else _) = _
            rw [if_pos Hb.out])
          clear hbad hyes
          go_wp2
          go_ret3
          exact post_bad Hr.out hb2
        · have Hy := Lib.hid (hyes.out h998)
          clear hbad hyes
          go_wp2
          go_roundw
          case rel => exact ⟨i + 1, by omega, by go_num, trivial, Hy⟩
          case measure => simp [intOf]; omega
      · obtain rfl : i = n := by omega
        have hno : longH ls = false := by
          unfold longH
          rw [List.any_eq_false]
          intro x hx
          obtain ⟨j, hj, rfl⟩ := List.mem_iff_getElem.1 hx
          have := hall.out j hj (by rw [← Hn.out]; exact hj)
          simpa using this
        have hpl2 : parseH s.data.toList = match fieldsH (joinH ls) with
            | none => (([], []), 2)
            | some l => if 64 < l.length then (([], []), 3) else ((l, rest), 0) := by
          rw [Hpl.out]
          show (if longH ls = true then _ else _) = _
          rw [if_neg (by rw [hno]; simp)]
          rfl
        have hrd := hread_any wr.heap.size A i c ls m wr hS.out.1 hS.out.2.1 hS.out.2.2 (Nat.le_refl _) (bound_abide Hm.out hb2) (by omega) (by omega)
        have hcl := fun W => sclone_any T W (by omega)
        have Hpl2 := Lib.hid hpl2
        have Hb2 := Lib.hid hb2
        have hbz := hb2.size
        clear hpl2 hno hall hb2 hlin Hpl Hm hcut2
        cases hR : fieldsH (joinH ls) with
        | none =>
          rw [hR] at hrd
          have Hr : Hid (parseH s.data.toList = (([], []), 2)) := Lib.hid (by rw [Hpl2.out, hR])
          have hrd2 : Calls Tryz.prog 37 #[.slice A i c] wr fun e w' => ∃ v, e = .returned (.tuple #[v, .bool false]) ∧ Below wr.heap.size wr w' := hrd.mono fun e w' ⟨v, he, _, hb⟩ => ⟨v, he, hb⟩
          clear hrd hR
          go_wp2_with (go_at_call 37; refine hrd2.mono ?_; rintro e w3 ⟨v3, rfl, hw3⟩)
          go_ret3
          exact post_bad Hr.out (Hb2.out.trans (hw3.mono hbz))
        | some l =>
          rw [hR] at hrd
          obtain ⟨k, hk⟩ : ∃ k, l.length = k := ⟨_, rfl⟩
          have Hk := Lib.hid hk
          have hrd2 : Calls Tryz.prog 37 #[.slice A i c] wr fun e w' => ∃ ao cap, e = .returned (.tuple #[.slice ao k cap, .bool true]) ∧ Hid (FieldsOwn w' wr.heap.size (.slice ao k cap) l) ∧ Below wr.heap.size wr w' := hrd.mono fun e w' ⟨v, he, ho, hb⟩ => by
            obtain ⟨ao, cap, rfl⟩ := row_slice ho
            rw [Option.getD_some] at ho he
            rw [hk] at he ho
            exact ⟨ao, cap, he, Lib.hid ho, hb⟩
          by_cases h64 : 64 < k
          · have Hr : Hid (parseH s.data.toList = (([], []), 3)) := Lib.hid (by
              rw [Hpl2.out, hR]
              show (if 64 < l.length then _ else _) = _
              rw [if_pos (by omega)])
            clear hrd hR hk
            go_wp2_with (go_at_call 37; refine hrd2.mono ?_; rintro e w3 ⟨ao, cap, rfl, ho3, hw3⟩)
            go_ret3
            exact post_bad Hr.out (Hb2.out.trans (hw3.mono hbz))
          · have Hr : Hid (parseH s.data.toList = ((l, rest), 0)) := Lib.hid (by
              rw [Hpl2.out, hR]
              show (if 64 < l.length then _ else _) = _
              rw [if_neg (by omega)])
            clear hrd hR hk
            go_wp2_with (first | (go_at_call 37; refine hrd2.mono ?_; rintro e w3 ⟨ao, cap, rfl, ho3, hw3⟩) | (go_at_call 20; refine (hcl _).mono ?_; rintro e w4 ⟨rfl, hw4⟩))
            go_ret3
            have hb3 := Hb2.out.trans (hw3.mono hbz)
            unfold ParsePost
            rw [Hr.out]
            refine ⟨.slice ao k cap, by rw [← HT.out]; rfl, ?_, hb3.trans (hw4.mono hb3.size)⟩
            have ho4 := row_more (ownsRow_below4 ho3.out hw4) hbz
            exact ho4
end Go.Proofs.YtjikghndoklajaaGreatDoor
