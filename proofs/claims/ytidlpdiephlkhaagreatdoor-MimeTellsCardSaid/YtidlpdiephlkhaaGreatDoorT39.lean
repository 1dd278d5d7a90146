/-
  Texts of this proof, put together: R10F, R13L.
-/
import Derived.Test.YtidlpdiephlkhaaGreatDoorT38
import Derived.Test.YtidlpdiephlkhaaGreatDoorT19
import Derived.Test.YtidlpdiephlkhaaGreatDoorT30
import Derived.Test.YtidlpdiephlkhaaGreatDoorT16
import Derived.Test.YtidlpdiephlkhaaGreatDoorT09
namespace Go.Proofs.YtidlpdiephlkhaaGreatDoor
open Go.RowKit

theorem top_fuel : ∀ (n : Nat) (s : TextH) (m : Nat), s.length < n → s.length < m → topH n s = topH m s
  | 0, s, m, h, _ => absurd h (Nat.not_lt_zero _)
  | n + 1, s, m, h1, h2 => by
    match m, h2 with
    | m + 1, h2 =>
      unfold topH
      cases hc : cutH s with
      | none => rfl
      | some x =>
        obtain ⟨l, r⟩ := x
        cases l with
        | nil => rfl
        | cons c l =>
          have := cut_less hc
          show (topH n r).map _ = (topH m r).map _
          rw [top_fuel n r m (by omega) (by omega)]
def topA (s : TextH) : Option (List TextH × TextH) := topH (s.length + 1) s
theorem topA_none {s : TextH} (h : cutH s = none) : topA s = none := by
  unfold topA topH
  rw [h]
theorem topA_end {s r : TextH} (h : cutH s = some ([], r)) : topA s = some ([], r) := by
  unfold topA topH
  rw [h]
theorem topA_line {s l r : TextH} (h : cutH s = some (l, r)) (hl : l ≠ []) : topA s = (topA r).map fun x => (l :: x.1, x.2) := by
  have hlt := cut_less h
  have e : topA s = (topH s.length r).map fun x => (l :: x.1, x.2) := by
    unfold topA
    rw [topH, h]
    cases l with
    | nil => exact absurd rfl hl
    | cons c l => rfl
  rw [e, top_fuel s.length r (r.length + 1) hlt (by omega)]
  rfl
theorem cut_at : ∀ (j : Nat) (s : TextH) (h : j + 1 < s.length), (∀ k, k < j → ∀ (h2 : k + 1 < s.length), ¬ (s[k] = 13 ∧ s[k + 1] = 10)) → s[j] = 13 → s[j + 1] = 10 → cutH s = some (s.take j, s.drop (j + 2))
  | 0, s, h, _, h13, h10 => by
    match s, h with
    | c :: d :: r, h =>
      have h13 : c = 13 := h13
      have h10 : d = 10 := h10
      unfold cutH
      rw [if_pos ⟨h13, by rw [h10]; rfl⟩]
      rfl
  | j + 1, s, h, hno, h13, h10 => by
    match s, h with
    | c :: s, h =>
      have hl : j + 1 < s.length := by simp at h; omega
      have ih := cut_at j s hl (fun k hk h2 hb => hno (k + 1) (by omega) (by simp; omega) hb) h13 h10
      have h0 := hno 0 (by omega) (by simp; omega)
      unfold cutH
      rw [if_neg, ih]
      · rfl
      · rintro ⟨h1, h2⟩
        refine h0 ⟨h1, ?_⟩
        rw [List.head?_eq_getElem?, List.getElem?_eq_getElem (by omega)] at h2
        exact Option.some.inj h2
theorem cut_no : ∀ (s : TextH), (∀ k (h2 : k + 1 < s.length), ¬ (s[k] = 13 ∧ s[k + 1] = 10)) → cutH s = none
  | [], _ => rfl
  | c :: s, hno => by
    have ih := cut_no s (fun k h2 hb => hno (k + 1) (by simp; omega) hb)
    unfold cutH
    rw [if_neg, ih]
    · rfl
    · rintro ⟨h1, h2⟩
      cases s with
      | nil => cases h2
      | cons d r => exact hno 0 (by simp) ⟨h1, Option.some.inj h2⟩
/-- What stands at the head of the first loop. -/
def TopSt (s : TextH) (fr i : Nat) (done : Bool) (lines : List TextH) : Prop :=
  (∀ x ∈ lines, x ≠ []) ∧ fr ≤ i ∧ i ≤ s.length ∧ lines.length ≤ fr ∧ lines.flatten.length ≤ fr ∧ ((done = false ∧ (∀ k, fr ≤ k → k < i → ∀ (h : k + 1 < s.length), ¬ (s[k] = 13 ∧ s[k + 1] = 10)) ∧ topA s = (topA (s.drop fr)).map fun x => (lines ++ x.1, x.2)) ∨ (done = true ∧ topA s = some (lines, s.drop fr)))
theorem top_start (s : TextH) : TopSt s 0 0 false [] :=
  ⟨fun x h => (by cases h), Nat.le_refl _, Nat.zero_le _, Nat.le_refl _, Nat.le_refl _, .inl ⟨rfl, fun k _ h => (by omega), by rw [List.drop_zero]; cases topA s <;> rfl⟩⟩
theorem top_skip {s : TextH} {fr i : Nat} {ls : List TextH} (h : TopSt s fr i false ls) (hi : i + 1 < s.length) (hc : ¬ (s[i] = 13 ∧ s[i + 1] = 10)) : TopSt s fr (i + 1) false ls := by
  obtain ⟨h1, h2, h3, h3b, h3c, h4⟩ := h
  rcases h4 with ⟨_, h5, h6⟩ | ⟨h, _⟩
  · refine ⟨h1, by omega, by omega, h3b, h3c, .inl ⟨rfl, fun k hk1 hk2 hk3 => ?_, h6⟩⟩
    rcases Nat.lt_or_ge k i with h7 | h7
    · exact h5 k hk1 h7 hk3
    · obtain rfl : k = i := by omega
      exact hc
  · cases h
theorem top_cut_at {s : TextH} {fr i : Nat} (hf : fr ≤ i) (hi : i + 1 < s.length) (h5 : ∀ k, fr ≤ k → k < i → ∀ (h : k + 1 < s.length), ¬ (s[k] = 13 ∧ s[k + 1] = 10)) (h13 : s[i] = 13) (h10 : s[i + 1] = 10) : cutH (s.drop fr) = some ((s.drop fr).take (i - fr), s.drop (i + 2)) := by
  have hl : i - fr + 1 < (s.drop fr).length := by rw [List.length_drop]; omega
  have := cut_at (i - fr) (s.drop fr) hl (fun k hk h2 => by
    simp only [List.getElem_drop]
    rw [List.length_drop] at h2
    exact h5 (fr + k) (by omega) (by omega) (by omega)) (by simp only [List.getElem_drop, show fr + (i - fr) = i by omega]; exact h13) (by simp only [List.getElem_drop, show fr + (i - fr + 1) = i + 1 by omega]; exact h10)
  rw [this, List.drop_drop, show fr + (i - fr + 2) = i + 2 by omega]
theorem top_found {s : TextH} {i : Nat} {ls : List TextH} (h : TopSt s i i false ls) (hi : i + 1 < s.length) (h13 : s[i] = 13) (h10 : s[i + 1] = 10) : TopSt s (i + 2) (i + 2) true ls := by
  obtain ⟨h1, h2, h3, h3b, h3c, h4⟩ := h
  rcases h4 with ⟨_, h5, h6⟩ | ⟨h, _⟩
  · refine ⟨h1, Nat.le_refl _, by omega, by omega, by omega, .inr ⟨rfl, ?_⟩⟩
    have hc := top_cut_at (Nat.le_refl _) hi h5 h13 h10
    rw [Nat.sub_self, List.take_zero] at hc
    rw [h6, topA_end hc]
    simp
  · cases h
theorem top_more {s : TextH} {fr i : Nat} {ls : List TextH} (h : TopSt s fr i false ls) (hne : i ≠ fr) (hi : i + 1 < s.length) (h13 : s[i] = 13) (h10 : s[i + 1] = 10) : TopSt s (i + 2) (i + 2) false (ls ++ [(s.drop fr).take (i - fr)]) := by
  obtain ⟨h1, h2, h3, h3b, h3c, h4⟩ := h
  rcases h4 with ⟨_, h5, h6⟩ | ⟨h, _⟩
  · have hc := top_cut_at h2 hi h5 h13 h10
    have hlen : ((s.drop fr).take (i - fr)).length = i - fr := by rw [List.length_take, List.length_drop]; omega
    have hnn : (s.drop fr).take (i - fr) ≠ [] := fun e => by
      rw [e] at hlen
      simp at hlen
      omega
    refine ⟨fun x hx => ?_, Nat.le_refl _, by omega, by rw [List.length_append]; simp; omega, by rw [List.flatten_append, List.length_append]; simp only [List.flatten_cons, List.flatten_nil, List.append_nil, hlen]; omega, .inl ⟨rfl, fun k hk1 hk2 => by omega, ?_⟩⟩
    · rcases List.mem_append.1 hx with hx | hx
      · exact h1 x hx
      · rw [List.mem_singleton.1 hx]
        exact hnn
    · rw [h6, topA_line hc hnn]
      cases topA (s.drop (i + 2)) with
      | none => rfl
      | some x => simp
  · cases h
theorem top_fail {s : TextH} {fr i : Nat} {ls : List TextH} (h : TopSt s fr i false ls) (hi : ¬ i + 1 < s.length) : topA s = none := by
  obtain ⟨h1, h2, h3, h3b, h3c, h4⟩ := h
  rcases h4 with ⟨_, h5, h6⟩ | ⟨h, _⟩
  · rw [h6, topA_none]
    · rfl
    · refine cut_no _ fun k hk => ?_
      simp only [List.getElem_drop]
      rw [List.length_drop] at hk
      exact h5 (fr + k) (by omega) (by omega) (by omega)
  · cases h
theorem top_done {s : TextH} {fr i : Nat} {ls : List TextH} (h : TopSt s fr i true ls) : topA s = some (ls, s.drop fr) := by
  obtain ⟨_, _, _, _, _, h4⟩ := h
  rcases h4 with ⟨h, _⟩ | ⟨_, h⟩
  · cases h
  · exact h
theorem trim_front {c : UInt8} (h : blankH c = true) (r : TextH) : trimH (c :: r) = trimH r := by
  unfold trimH
  rw [List.dropWhile_cons, h, if_pos rfl]
theorem trim_back {c : UInt8} (h : blankH c = true) (r : TextH) : trimH (r ++ [c]) = trimH r := by
  have e : ∀ t : TextH, trimH t = (trimR t).dropWhile blankH := fun t => by rw [trim_two]; rfl
  rw [e, e]
  unfold trimR
  rw [List.reverse_append]
  show (([c] ++ r.reverse).dropWhile blankH).reverse.dropWhile blankH = _
  rw [List.singleton_append, List.dropWhile_cons, h, if_pos rfl]
theorem trim_first {l : TextH} {a : Nat} (ha : a < l.length) (h : blankH l[a] = true) : trimH (l.drop a) = trimH (l.drop (a + 1)) := by
  rw [List.drop_eq_getElem_cons ha, trim_front h]
theorem trim_last {l : TextH} {a b : Nat} (hab : a < b) (hb : b ≤ l.length) (h : blankH (l[b - 1]'(by omega)) = true) : trimH ((l.drop a).take (b - a)) = trimH ((l.drop a).take (b - 1 - a)) := by
  rw [show b - a = (b - 1 - a) + 1 by omega, List.take_succ_eq_append_getElem (by rw [List.length_drop]; omega)]
  have e : (l.drop a)[b - 1 - a]'(by rw [List.length_drop]; omega) = l[b - 1]'(by omega) := by
    simp only [List.getElem_drop, show a + (b - 1 - a) = b - 1 by omega]
  rw [e, trim_back h]
theorem trim_done {l : TextH} {a b : Nat} (hab : a ≤ b) (hb : b ≤ l.length) (h1 : ∀ h : a < b, blankH (l[a]'(by omega)) = false) (h2 : ∀ h : a < b, blankH (l[b - 1]'(by omega)) = false) : trimH ((l.drop a).take (b - a)) = (l.drop a).take (b - a) := by
  refine trim_body (fun c r e => ?_) (fun c r e => ?_)
  · have hlt : a < b := by
      rcases Nat.lt_or_ge a b with h | h
      · exact h
      · rw [show b - a = 0 by omega] at e
        cases e
    have := h1 hlt
    rw [List.drop_eq_getElem_cons (by omega), show b - a = (b - a - 1) + 1 by omega, List.take_succ_cons] at e
    rw [← (List.cons.inj e).1]
    exact this
  · have hlt : a < b := by
      rcases Nat.lt_or_ge a b with h | h
      · exact h
      · rw [show b - a = 0 by omega] at e
        simp at e
    have := h2 hlt
    rw [show b - a = (b - 1 - a) + 1 by omega, List.take_succ_eq_append_getElem (by rw [List.length_drop]; omega)] at e
    have e3 := List.append_inj_right' e rfl
    have e2 : (l.drop a)[b - 1 - a]'(by rw [List.length_drop]; omega) = l[b - 1]'(by omega) := by
      simp only [List.getElem_drop, show a + (b - 1 - a) = b - 1 by omega]
    rw [← (List.cons.inj e3).1, e2]
    exact this
/-- Where the name ends. -/
theorem field_none {w : TextH} (h : ∀ j (hj : j < w.length), w[j] ≠ 58) : fieldH w = none := by
  unfold fieldH
  rw [if_neg]
  intro hm
  obtain ⟨j, hj, e⟩ := List.mem_iff_getElem.1 hm
  exact h j hj e
theorem field_cut {w : TextH} {c : Nat} (hc : c < w.length) (h58 : w[c] = 58) (h : ∀ j (hj : j < w.length), j < c → w[j] ≠ 58) : fieldH w = some (w.take c, trimH (w.drop (c + 1))) := by
  have e : w = w.take c ++ 58 :: w.drop (c + 1) := by
    rw [← h58, ← List.drop_eq_getElem_cons hc, List.take_append_drop]
  have hn : ∀ x ∈ w.take c, x ≠ 58 := fun x hx => by
    obtain ⟨j, hj, rfl⟩ := List.mem_iff_getElem.1 hx
    rw [List.length_take] at hj
    rw [List.getElem_take]
    exact h j (by omega) (by omega)
  obtain ⟨a, b⟩ := take_name (w.take c) (w.drop (c + 1)) hn
  unfold fieldH
  rw [if_pos (by rw [e]; simp)]
  conv => lhs; rw [e]
  rw [a, b]
  rfl
/-- Texts, as a row of somebody's own. -/
abbrev TextsOwn (w : World) (B : Nat) (v : Value) (l : List TextH) : Prop := w.ownsRow B 9 1 v l.length ((textsF l).map .string)
theorem wpList_append_text {w : World} {ops : Array Oper} {rest : List Oper} {o : Oper} {a : Act} {Q : Exit → Act → World → Prop} (hgd : o.guard = none) (s x : Operand)
    (ho : o.op = .call { callee := .builtin .append, args := #[s, x], argTypes := #[42, 42] }) (B : Nat) (v : Value) (l : List TextH) (p : TextH) (hs : a.eval s = v) (hown : TextsOwn w B v l) (hB : B ≤ w.heap.size) (hl : l.length ≤ 10000000)
    (b c : Nat) (hx : a.eval x = .slice (some ⟨b, 0, none⟩) 1 c) (h0 : w.cell? ⟨b, 0, none⟩ = some (.string (textQ p)))
    (h : ∀ v' w', TextsOwn w' B v' (l ++ [p]) → w.grownBy w' v.ownBlock → wpList Tryz.prog ops Q rest (a.put o.dst v') w') : wpList Tryz.prog ops Q (o :: rest) a w := by
  obtain ⟨i0, hi, hz0, hz1, hz2⟩ := info_parts infoStr6
  refine wpList_append_own w hgd s x 42 ho B 9 i0 (.string ⟨#[]⟩) 1 16 Tryz.underlying42 hi hz0 hz1 hz2 rfl (by decide) v l.length _ hs hown ⟨b, 0, none⟩ 1 c [.string (textQ p)] hx rfl (fun j u hj => ?_) (fun u hu => ?_) (by unfold maxLen; omega) (by omega) hB (fun v' w' q1 q2 _ => ?_)
  · rw [Addr.add_lit, Nat.zero_add]
    match j, hj with
    | 0, hj => cases hj; exact h0
    | j + 1, hj => cases hj
  · rw [List.mem_singleton.1 hu]
    rfl
  · refine h v' w' ?_ q2
    unfold TextsOwn
    rw [List.length_append, show textsF (l ++ [p]) = textsF l ++ [textQ p] by simp [textsF], List.map_append]
    exact q1
end Go.Proofs.YtidlpdiephlkhaaGreatDoor
namespace Go.Proofs.YtidlpdiephlkhaaGreatDoor
open Go.RowKit

theorem infoInt13 : (Tryz.prog.info? 3).map (fun i => (i.zero, i.size, i.bytes)) = some (some (.int .i64 0), 1, 8) := by kernel_rfl
/-- Numbers, as a row of somebody's own. -/
def intCells (l : List Nat) : List Value := l.map fun (n : Nat) => Value.int .i64 (n : Int)
abbrev IntsOwn (w : World) (B : Nat) (v : Value) (l : List Nat) : Prop := w.ownsRow B 3 1 v l.length (intCells l)
theorem append_int {w : World} {ops : Array Oper} {rest : List Oper} {o : Oper} {a : Act} {Q : Exit → Act → World → Prop} (hgd : o.guard = none) (s x : Operand)
    (ho : o.op = .call { callee := .builtin .append, args := #[s, x], argTypes := #[125, 125] }) (B : Nat) (v : Value) (l : List Nat) (p : Nat) (hs : a.eval s = v) (hown : IntsOwn w B v l) (hB : B ≤ w.heap.size) (hl : l.length ≤ 10000000)
    (b c : Nat) (hx : a.eval x = .slice (some ⟨b, 0, none⟩) 1 c) (h0 : w.cell? ⟨b, 0, none⟩ = some (.int .i64 (p : Int)))
    (h : ∀ v' w', IntsOwn w' B v' (l ++ [p]) → w.grownBy w' v.ownBlock → wpList Tryz.prog ops Q rest (a.put o.dst v') w') : wpList Tryz.prog ops Q (o :: rest) a w := by
  obtain ⟨i0, hi, hz0, hz1, hz2⟩ := info_parts infoInt13
  refine wpList_append_own w hgd s x 125 ho B 3 i0 (.int .i64 0) 1 8 Tryz.underlying125 hi hz0 hz1 hz2 rfl (by decide) v l.length _ hs hown ⟨b, 0, none⟩ 1 c [.int .i64 (p : Int)] hx rfl (fun j u hj => ?_) (fun u hu => ?_) (by unfold maxLen; omega) (by omega) hB (fun v' w' q1 q2 _ => ?_)
  · rw [Addr.add_lit, Nat.zero_add]
    match j, hj with
    | 0, hj => cases hj; exact h0
    | j + 1, hj => cases hj
  · rw [List.mem_singleton.1 hu]
    rfl
  · refine h v' w' ?_ q2
    unfold IntsOwn intCells
    rw [List.length_append, List.map_append]
    exact q1
theorem IntsOwn.cells {w : World} {B : Nat} {ao : Option Addr} {nn cap : Nat} {l : List Nat} (h : IntsOwn w B (.slice ao nn cap) l) (i : Nat) (hi : i < l.length) : ∃ g, ao = some ⟨g, 0, none⟩ ∧ B ≤ g ∧ nn = l.length ∧ nn ≤ cap ∧ cap ≤ maxLen ∧ w.cell? ⟨g, i, none⟩ = some (.int .i64 (l[i] : Int)) := by
  obtain ⟨_, h2⟩ := h
  rcases h2 with ⟨e, h0⟩ | ⟨g, cap2, cur, e, hg, hb, hc, hm, hs, ht⟩
  · omega
  · cases e
    refine ⟨g, rfl, hg, rfl, hc, hm, ?_⟩
    rw [Lib.cell_of_heap hb i]
    have hx : (intCells l)[i]? = some (.int .i64 (l[i] : Int)) := by
      unfold intCells
      rw [List.getElem?_map, List.getElem?_eq_getElem hi]
      rfl
    rw [← hx, ← ht, List.getElem?_take_of_lt (by omega)]
    simp
theorem IntsOwn.len {w : World} {B : Nat} {ao : Option Addr} {nn cap : Nat} {l : List Nat} (h : IntsOwn w B (.slice ao nn cap) l) : nn = l.length ∧ nn ≤ cap ∧ cap ≤ maxLen := by
  obtain ⟨_, h2⟩ := h
  rcases h2 with ⟨e, h0⟩ | ⟨g, cap2, cur, e, hg, hb, hc, hm, hs, ht⟩
  · cases e
    exact ⟨h0.symm, Nat.le_refl _, by simp [maxLen]⟩
  · cases e
    exact ⟨rfl, hc, hm⟩
/-- The places ahead of one. -/
def aheadM (mk raw : TextH) (i : Nat) : List Nat := (List.range i).filter (markedM mk raw)
theorem ahead_succ (mk raw : TextH) (i : Nat) : aheadM mk raw (i + 1) = aheadM mk raw i ++ (if markedM mk raw i = true then [i] else []) := by
  unfold aheadM
  rw [List.range_succ, List.filter_append, List.filter_cons, List.filter_nil]
theorem ahead_len (mk raw : TextH) (i : Nat) : (aheadM mk raw i).length ≤ i := by
  have := List.length_filter_le (markedM mk raw) (List.range i)
  rw [List.length_range] at this
  exact this
theorem pfx_extract {s mk : ByteArray} {i : Nat} (_h : i + mk.size ≤ s.size) : ((s.extract i (i + mk.size)).toList == mk.toList) = mk.data.toList.isPrefixOf (s.data.toList.drop i) := by
  have hl : mk.data.toList.length = mk.size := rfl
  rw [Lib.toList_data, Lib.toList_data, cut_text, Bool.eq_iff_iff, beq_iff_eq, List.isPrefixOf_iff_prefix, List.prefix_iff_eq_take, hl, show i + mk.size - i = mk.size by omega]
  exact ⟨fun e => e.symm, fun e => e.symm⟩
theorem two_ahead {s : ByteArray} {q : Nat} (h : q + 1 < s.size) : ((s.data.toList.drop q).take 2 == [13, 10]) = (((s[q].toNat : Int) == 13) && ((s[q + 1].toNat : Int) == 10)) := by
  have hl : s.data.toList.length = s.size := rfl
  have e1 : s[q]'(by omega) = s.data.toList[q]'(by omega) := by simp [ByteArray.getElem_eq_getElem_data]
  have e2 : s[q + 1]'h = s.data.toList[q + 1]'(by omega) := by simp [ByteArray.getElem_eq_getElem_data]
  rw [List.drop_eq_getElem_cons (by omega : q < s.data.toList.length), List.drop_eq_getElem_cons (by omega : q + 1 < s.data.toList.length), e1, e2, Bool.eq_iff_iff, Bool.and_eq_true, beq_iff_eq, beq_iff_eq, beq_iff_eq]
  constructor
  · intro e
    simp only [List.take_succ_cons, List.take_zero, List.cons.injEq, and_true] at e
    rw [e.1, e.2]
    decide
  · rintro ⟨k1, k2⟩
    simp only [List.take_succ_cons, List.take_zero, List.cons.injEq, and_true]
    exact ⟨UInt8.toNat_inj.1 (by have : (13 : UInt8).toNat = 13 := rfl; omega), UInt8.toNat_inj.1 (by have : (10 : UInt8).toNat = 10 := rfl; omega)⟩

theorem marked_far2 {s mk : ByteArray} {i q q1 : Nat} (hp : mk.data.toList.isPrefixOf (s.data.toList.drop i) = true) (h : q + 2 = i) (h1 : q + 1 = q1) (l0 : q < s.size) (l1 : q1 < s.size) : markedM mk.data.toList s.data.toList i = (((s[q].toNat : Int) == 13) && ((s[q1].toNat : Int) == 10)) := by
  subst h h1
  unfold markedM
  rw [hp, Bool.true_and, decide_eq_false (by omega : ¬ q + 2 = 0), decide_eq_true (by omega : 2 ≤ q + 2), Bool.false_or, Bool.true_and, show q + 2 - 2 = q by omega, two_ahead l1]

set_option maxRecDepth 100000 in
set_option maxHeartbeats 8000000 in
theorem r13lines_any (s mk : ByteArray) (w : World) (hs : s.size ≤ 1000000) (hmk : mk.size ≤ 1000000) :
    Calls Tryz.prog 99 #[.string s, .string mk] w fun e w' => ∃ ao nn cap, e = .returned (.slice ao nn cap) ∧ Hid (IntsOwn w' w.heap.size (.slice ao nn cap) (placesM mk.data.toList s.data.toList) ∧ Below w.heap.size w w') := by
  have hl : s.data.toList.length = s.size := rfl
  have hlm : mk.data.toList.length = mk.size := rfl
  have r0 := Lib.hid (Below.refl w.heap.size w)
  go_enter Tryz.func99, Tryz.ntmps99
  go_wp2
  go_loopw [5, 6] (fun ov iv wr => ∃ (i : Nat) (ao : Option Addr) (nn cap : Nat), i ≤ s.size + 1 - mk.size ∧ iv = .int .i64 i ∧ ov = .slice ao nn cap ∧ Hid (IntsOwn wr w.heap.size (.slice ao nn cap) (aheadM mk.data.toList s.data.toList i)) ∧ Hid (Below w.heap.size w wr)) (fun _ iv _ => s.size + 1 - (intOf iv).toNat)
  case atStart => exact ⟨0, none, 0, 0, by omega, rfl, rfl, Lib.hid (World.ownsRow_nil _ _ _ _), r0⟩
  case round =>
    obtain ⟨i, ao, nn, cap, hi, rfl, rfl, hown, hbr⟩ := hrel
    by_cases hlt : i + mk.size ≤ s.size
    · have hpf := pfx_extract hlt
      have hsu := ahead_succ mk.data.toList s.data.toList i
      have hw1 : IntKind.i64.wrap ((i : Int) + (mk.size : Int)) = ((i + mk.size : Nat) : Int) := by rw [IntWalk.i64_in _ (by omega)]; omega
      have hlI : ((i : Int) + (mk.size : Int)) ≤ (s.size : Int) := by omega
      cases hm : mk.data.toList.isPrefixOf (s.data.toList.drop i) with
      | false =>
        rw [hm] at hpf
        have hno : markedM mk.data.toList s.data.toList i = false := by unfold markedM; rw [hm]; rfl
        rw [hno] at hsu
        have Hsu : Hid (aheadM mk.data.toList s.data.toList (i + 1) = aheadM mk.data.toList s.data.toList i) := Lib.hid (by rw [hsu]; simp)
        clear hsu hm hno
        go_wp2
        go_roundw
        case rel => exact ⟨i + 1, ao, nn, cap, by omega, by go_num, rfl, Lib.hid (by rw [Hsu.out]; exact hown.out), hbr⟩
        case measure => simp [intOf]; omega
      | true =>
        rw [hm] at hpf
        by_cases hi0 : i = 0
        · have hno : markedM mk.data.toList s.data.toList i = true := by unfold markedM; rw [hm, decide_eq_true hi0]; rfl
          rw [hno, if_pos rfl] at hsu
          have Hsu := Lib.hid hsu
          have hi0I : ((i : Int) == 0) = true := by rw [beq_iff_eq]; omega
          clear hsu hm hno hi0
          have hal : (aheadM mk.data.toList s.data.toList i).length ≤ 10000000 := by have := ahead_len mk.data.toList s.data.toList i; omega
          have HA := Lib.hid hal
          clear hal
          go_wp2_with (at_builtin; refine HeldW.of ?_)
          unfold HeldW
          have hB1 : w.heap.size ≤ (wr.alloc (.cells #[.int .i64 (i : Int)] 3)).heap.size := by have := hbr.out.size; simp; omega
          have h0 : (wr.alloc (.cells #[.int .i64 (i : Int)] 3)).cell? ⟨wr.heap.size, 0, none⟩ = some (.int .i64 (i : Int)) := (Boxed.new wr 3 (.int .i64 (i : Int))).cell
          refine append_int rfl _ _ rfl w.heap.size (.slice ao nn cap) (aheadM mk.data.toList s.data.toList i) i rfl (World.ownsRow.alloc hown.out (.cells #[.int .i64 (i : Int)] 3)) hB1 HA.out wr.heap.size 1 rfl h0 ?_
          intro v' w8 ho hg
          obtain ⟨ao', cap', rfl⟩ := row_slice ho
          have hF := ((hbr.out).alloc hbr.out.size (.cells #[.int .i64 (i : Int)] 3)).grown hg hB1 (fun k hk => (row_block (World.ownsRow.alloc hown.out (.cells #[.int .i64 (i : Int)] 3)) hk).1)
          obtain ⟨n2, hn2⟩ : ∃ n2, (aheadM mk.data.toList s.data.toList i ++ [i]).length = n2 := ⟨_, rfl⟩
          rw [hn2] at ho ⊢
          rw [← Hsu.out] at ho
          have A8 := Lib.hid (And.intro ho hF)
          clear ho hg hF hB1 h0 hn2
          go_wp2
          go_roundw
          case rel => exact ⟨i + 1, ao', n2, cap', by omega, by go_num, rfl, Lib.hid A8.out.1, Lib.hid A8.out.2⟩
          case measure => simp [intOf]; omega
        · have hi0I : ((i : Int) == 0) = false := by rw [beq_eq_false_iff_ne]; omega
          by_cases hi1 : i = 1
          · have hno : markedM mk.data.toList s.data.toList i = false := by unfold markedM; rw [decide_eq_false hi0, decide_eq_false (by omega : ¬ 2 ≤ i), Bool.false_or, Bool.false_and, Bool.and_false]
            rw [hno] at hsu
            have Hsu : Hid (aheadM mk.data.toList s.data.toList (i + 1) = aheadM mk.data.toList s.data.toList i) := Lib.hid (by rw [hsu]; simp)
            have hi2I : (i : Int) < 2 := by omega
            clear hsu hm hno hi0 hi1
            go_wp2
            go_roundw
            case rel => exact ⟨i + 1, ao, nn, cap, by omega, by go_num, rfl, Lib.hid (by rw [Hsu.out]; exact hown.out), hbr⟩
            case measure => simp [intOf]; omega
          · obtain ⟨q, hq⟩ : ∃ q, q + 2 = i := ⟨i - 2, by omega⟩
            obtain ⟨q1, hq1⟩ : ∃ q1, q + 1 = q1 := ⟨_, rfl⟩
            have l0 : q < s.size := by omega
            have l1 : q1 < s.size := by omega
            have hmm := marked_far2 hm hq hq1 l0 l1
            have hi2I : (2 : Int) ≤ (i : Int) := by omega
            have hw2 : IntKind.i64.wrap ((i : Int) - 2) = (q : Int) := by rw [IntWalk.i64_in _ (by omega)]; omega
            have hw3 : IntKind.i64.wrap ((i : Int) - 1) = (q1 : Int) := by rw [IntWalk.i64_in _ (by omega)]; omega
            rw [hmm] at hsu
            clear hmm hm hi0 hi1 hq hq1
            cases hb1 : ((s[q].toNat : Int) == 13) with
            | false =>
              rw [hb1] at hsu
              have Hsu : Hid (aheadM mk.data.toList s.data.toList (i + 1) = aheadM mk.data.toList s.data.toList i) := Lib.hid (by rw [hsu]; simp)
              clear hsu
              go_wp2
              go_roundw
              case rel => exact ⟨i + 1, ao, nn, cap, by omega, by go_num, rfl, Lib.hid (by rw [Hsu.out]; exact hown.out), hbr⟩
              case measure => simp [intOf]; omega
            | true =>
              cases hb2 : ((s[q1].toNat : Int) == 10) with
              | false =>
                rw [hb1, hb2] at hsu
                have Hsu : Hid (aheadM mk.data.toList s.data.toList (i + 1) = aheadM mk.data.toList s.data.toList i) := Lib.hid (by rw [hsu]; simp)
                clear hsu
                go_wp2
                go_roundw
                case rel => exact ⟨i + 1, ao, nn, cap, by omega, by go_num, rfl, Lib.hid (by rw [Hsu.out]; exact hown.out), hbr⟩
                case measure => simp [intOf]; omega
              | true =>
                rw [hb1, hb2, Bool.true_and, if_pos rfl] at hsu
                have Hsu := Lib.hid hsu
                clear hsu
                have hal : (aheadM mk.data.toList s.data.toList i).length ≤ 10000000 := by have := ahead_len mk.data.toList s.data.toList i; omega
                have HA := Lib.hid hal
                clear hal
                go_wp2_with (at_builtin; refine HeldW.of ?_)
                unfold HeldW
                have hB1 : w.heap.size ≤ (wr.alloc (.cells #[.int .i64 (i : Int)] 3)).heap.size := by have := hbr.out.size; simp; omega
                have h0 : (wr.alloc (.cells #[.int .i64 (i : Int)] 3)).cell? ⟨wr.heap.size, 0, none⟩ = some (.int .i64 (i : Int)) := (Boxed.new wr 3 (.int .i64 (i : Int))).cell
                refine append_int rfl _ _ rfl w.heap.size (.slice ao nn cap) (aheadM mk.data.toList s.data.toList i) i rfl (World.ownsRow.alloc hown.out (.cells #[.int .i64 (i : Int)] 3)) hB1 HA.out wr.heap.size 1 rfl h0 ?_
                intro v' w8 ho hg
                obtain ⟨ao', cap', rfl⟩ := row_slice ho
                have hF := ((hbr.out).alloc hbr.out.size (.cells #[.int .i64 (i : Int)] 3)).grown hg hB1 (fun k hk => (row_block (World.ownsRow.alloc hown.out (.cells #[.int .i64 (i : Int)] 3)) hk).1)
                obtain ⟨n2, hn2⟩ : ∃ n2, (aheadM mk.data.toList s.data.toList i ++ [i]).length = n2 := ⟨_, rfl⟩
                rw [hn2] at ho ⊢
                rw [← Hsu.out] at ho
                have A8 := Lib.hid (And.intro ho hF)
                clear ho hg hF hB1 h0 hn2
                go_wp2
                go_roundw
                case rel => exact ⟨i + 1, ao', n2, cap', by omega, by go_num, rfl, Lib.hid A8.out.1, Lib.hid A8.out.2⟩
                case measure => simp [intOf]; omega
    · have e : i = s.size + 1 - mk.size := by omega
      have hw1 : IntKind.i64.wrap ((i : Int) + (mk.size : Int)) = ((i + mk.size : Nat) : Int) := by rw [IntWalk.i64_in _ (by omega)]; omega
      have hlI : (s.size : Int) < ((i : Int) + (mk.size : Int)) := by omega
      have Fin : Hid (IntsOwn wr w.heap.size (.slice ao nn cap) (placesM mk.data.toList s.data.toList) ∧ Below w.heap.size w wr) := Lib.hid (by
        have h := hown.out
        rw [e] at h
        exact ⟨h, hbr.out⟩)
      clear hown hbr e
      go_wp2
      go_ret
      exact ⟨_, _, _, rfl, Fin⟩
end Go.Proofs.YtidlpdiephlkhaaGreatDoor
