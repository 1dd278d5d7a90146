/-
  Lines ahead of the first empty one, found byte by byte; a text without blanks at its ends, found byte by byte. Plain facts, and a text appended to a row of the call's own.
-/
import Derived.Test.YtneihcdeflfahaaDoorR10E
import Derived.Test.YtneihcdeflfahaaDoorHdI
namespace Go.Proofs.YtneihcdeflfahaaDoor
open Go.RowKit

theorem top_fuel : ∀ (n : Nat) (s : TextH) (m : Nat), s.length < n → s.length < m → topH n s = topH m s
  | 0, s, m, h, _ => absurd h (Nat.not_lt_zero _)
  | n + 1, s, m, h1, h2 => by
    match m, h2 with
    | m + 1, h2 =>
      unfold topH
      cases hc : cutH s with
      | none => rfl
      | some x =>
        obtain ⟨l, r⟩ := x
        cases l with
        | nil => rfl
        | cons c l =>
          have := cut_less hc
          show (topH n r).map _ = (topH m r).map _
          rw [top_fuel n r m (by omega) (by omega)]
def topA (s : TextH) : Option (List TextH × TextH) := topH (s.length + 1) s
theorem topA_none {s : TextH} (h : cutH s = none) : topA s = none := by
  unfold topA topH
  rw [h]
theorem topA_end {s r : TextH} (h : cutH s = some ([], r)) : topA s = some ([], r) := by
  unfold topA topH
  rw [h]
theorem topA_line {s l r : TextH} (h : cutH s = some (l, r)) (hl : l ≠ []) : topA s = (topA r).map fun x => (l :: x.1, x.2) := by
  have hlt := cut_less h
  have e : topA s = (topH s.length r).map fun x => (l :: x.1, x.2) := by
    unfold topA
    rw [topH, h]
    cases l with
    | nil => exact absurd rfl hl
    | cons c l => rfl
  rw [e, top_fuel s.length r (r.length + 1) hlt (by omega)]
  rfl
theorem cut_at : ∀ (j : Nat) (s : TextH) (h : j + 1 < s.length), (∀ k, k < j → ∀ (h2 : k + 1 < s.length), ¬ (s[k] = 13 ∧ s[k + 1] = 10)) → s[j] = 13 → s[j + 1] = 10 → cutH s = some (s.take j, s.drop (j + 2))
  | 0, s, h, _, h13, h10 => by
    match s, h with
    | c :: d :: r, h =>
      have h13 : c = 13 := h13
      have h10 : d = 10 := h10
      unfold cutH
      rw [if_pos ⟨h13, by rw [h10]; rfl⟩]
      rfl
  | j + 1, s, h, hno, h13, h10 => by
    match s, h with
    | c :: s, h =>
      have hl : j + 1 < s.length := by simp at h; omega
      have ih := cut_at j s hl (fun k hk h2 hb => hno (k + 1) (by omega) (by simp; omega) hb) h13 h10
      have h0 := hno 0 (by omega) (by simp; omega)
      unfold cutH
      rw [if_neg, ih]
      · rfl
      · rintro ⟨h1, h2⟩
        refine h0 ⟨h1, ?_⟩
        rw [List.head?_eq_getElem?, List.getElem?_eq_getElem (by omega)] at h2
        exact Option.some.inj h2
theorem cut_no : ∀ (s : TextH), (∀ k (h2 : k + 1 < s.length), ¬ (s[k] = 13 ∧ s[k + 1] = 10)) → cutH s = none
  | [], _ => rfl
  | c :: s, hno => by
    have ih := cut_no s (fun k h2 hb => hno (k + 1) (by simp; omega) hb)
    unfold cutH
    rw [if_neg, ih]
    · rfl
    · rintro ⟨h1, h2⟩
      cases s with
      | nil => cases h2
      | cons d r => exact hno 0 (by simp) ⟨h1, Option.some.inj h2⟩
/-- What stands at the head of the first loop. -/
def TopSt (s : TextH) (fr i : Nat) (done : Bool) (lines : List TextH) : Prop :=
  (∀ x ∈ lines, x ≠ []) ∧ fr ≤ i ∧ i ≤ s.length ∧ lines.length ≤ fr ∧ lines.flatten.length ≤ fr ∧ ((done = false ∧ (∀ k, fr ≤ k → k < i → ∀ (h : k + 1 < s.length), ¬ (s[k] = 13 ∧ s[k + 1] = 10)) ∧ topA s = (topA (s.drop fr)).map fun x => (lines ++ x.1, x.2)) ∨ (done = true ∧ topA s = some (lines, s.drop fr)))
theorem top_start (s : TextH) : TopSt s 0 0 false [] :=
  ⟨fun x h => (by cases h), Nat.le_refl _, Nat.zero_le _, Nat.le_refl _, Nat.le_refl _, .inl ⟨rfl, fun k _ h => (by omega), by rw [List.drop_zero]; cases topA s <;> rfl⟩⟩
theorem top_skip {s : TextH} {fr i : Nat} {ls : List TextH} (h : TopSt s fr i false ls) (hi : i + 1 < s.length) (hc : ¬ (s[i] = 13 ∧ s[i + 1] = 10)) : TopSt s fr (i + 1) false ls := by
  obtain ⟨h1, h2, h3, h3b, h3c, h4⟩ := h
  rcases h4 with ⟨_, h5, h6⟩ | ⟨h, _⟩
  · refine ⟨h1, by omega, by omega, h3b, h3c, .inl ⟨rfl, fun k hk1 hk2 hk3 => ?_, h6⟩⟩
    rcases Nat.lt_or_ge k i with h7 | h7
    · exact h5 k hk1 h7 hk3
    · obtain rfl : k = i := by omega
      exact hc
  · cases h
theorem top_cut_at {s : TextH} {fr i : Nat} (hf : fr ≤ i) (hi : i + 1 < s.length) (h5 : ∀ k, fr ≤ k → k < i → ∀ (h : k + 1 < s.length), ¬ (s[k] = 13 ∧ s[k + 1] = 10)) (h13 : s[i] = 13) (h10 : s[i + 1] = 10) : cutH (s.drop fr) = some ((s.drop fr).take (i - fr), s.drop (i + 2)) := by
  have hl : i - fr + 1 < (s.drop fr).length := by rw [List.length_drop]; omega
  have := cut_at (i - fr) (s.drop fr) hl (fun k hk h2 => by
    simp only [List.getElem_drop]
    rw [List.length_drop] at h2
    exact h5 (fr + k) (by omega) (by omega) (by omega)) (by simp only [List.getElem_drop, show fr + (i - fr) = i by omega]; exact h13) (by simp only [List.getElem_drop, show fr + (i - fr + 1) = i + 1 by omega]; exact h10)
  rw [this, List.drop_drop, show fr + (i - fr + 2) = i + 2 by omega]
theorem top_found {s : TextH} {i : Nat} {ls : List TextH} (h : TopSt s i i false ls) (hi : i + 1 < s.length) (h13 : s[i] = 13) (h10 : s[i + 1] = 10) : TopSt s (i + 2) (i + 2) true ls := by
  obtain ⟨h1, h2, h3, h3b, h3c, h4⟩ := h
  rcases h4 with ⟨_, h5, h6⟩ | ⟨h, _⟩
  · refine ⟨h1, Nat.le_refl _, by omega, by omega, by omega, .inr ⟨rfl, ?_⟩⟩
    have hc := top_cut_at (Nat.le_refl _) hi h5 h13 h10
    rw [Nat.sub_self, List.take_zero] at hc
    rw [h6, topA_end hc]
    simp
  · cases h
theorem top_more {s : TextH} {fr i : Nat} {ls : List TextH} (h : TopSt s fr i false ls) (hne : i ≠ fr) (hi : i + 1 < s.length) (h13 : s[i] = 13) (h10 : s[i + 1] = 10) : TopSt s (i + 2) (i + 2) false (ls ++ [(s.drop fr).take (i - fr)]) := by
  obtain ⟨h1, h2, h3, h3b, h3c, h4⟩ := h
  rcases h4 with ⟨_, h5, h6⟩ | ⟨h, _⟩
  · have hc := top_cut_at h2 hi h5 h13 h10
    have hlen : ((s.drop fr).take (i - fr)).length = i - fr := by rw [List.length_take, List.length_drop]; omega
    have hnn : (s.drop fr).take (i - fr) ≠ [] := fun e => by
      rw [e] at hlen
      simp at hlen
      omega
    refine ⟨fun x hx => ?_, Nat.le_refl _, by omega, by rw [List.length_append]; simp; omega, by rw [List.flatten_append, List.length_append]; simp only [List.flatten_cons, List.flatten_nil, List.append_nil, hlen]; omega, .inl ⟨rfl, fun k hk1 hk2 => by omega, ?_⟩⟩
    · rcases List.mem_append.1 hx with hx | hx
      · exact h1 x hx
      · rw [List.mem_singleton.1 hx]
        exact hnn
    · rw [h6, topA_line hc hnn]
      cases topA (s.drop (i + 2)) with
      | none => rfl
      | some x => simp
  · cases h
theorem top_fail {s : TextH} {fr i : Nat} {ls : List TextH} (h : TopSt s fr i false ls) (hi : ¬ i + 1 < s.length) : topA s = none := by
  obtain ⟨h1, h2, h3, h3b, h3c, h4⟩ := h
  rcases h4 with ⟨_, h5, h6⟩ | ⟨h, _⟩
  · rw [h6, topA_none]
    · rfl
    · refine cut_no _ fun k hk => ?_
      simp only [List.getElem_drop]
      rw [List.length_drop] at hk
      exact h5 (fr + k) (by omega) (by omega) (by omega)
  · cases h
theorem top_done {s : TextH} {fr i : Nat} {ls : List TextH} (h : TopSt s fr i true ls) : topA s = some (ls, s.drop fr) := by
  obtain ⟨_, _, _, _, _, h4⟩ := h
  rcases h4 with ⟨h, _⟩ | ⟨_, h⟩
  · cases h
  · exact h
theorem trim_front {c : UInt8} (h : blankH c = true) (r : TextH) : trimH (c :: r) = trimH r := by
  unfold trimH
  rw [List.dropWhile_cons, h, if_pos rfl]
theorem trim_back {c : UInt8} (h : blankH c = true) (r : TextH) : trimH (r ++ [c]) = trimH r := by
  have e : ∀ t : TextH, trimH t = (trimR t).dropWhile blankH := fun t => by rw [trim_two]; rfl
  rw [e, e]
  unfold trimR
  rw [List.reverse_append]
  show (([c] ++ r.reverse).dropWhile blankH).reverse.dropWhile blankH = _
  rw [List.singleton_append, List.dropWhile_cons, h, if_pos rfl]
theorem trim_first {l : TextH} {a : Nat} (ha : a < l.length) (h : blankH l[a] = true) : trimH (l.drop a) = trimH (l.drop (a + 1)) := by
  rw [List.drop_eq_getElem_cons ha, trim_front h]
theorem trim_last {l : TextH} {a b : Nat} (hab : a < b) (hb : b ≤ l.length) (h : blankH (l[b - 1]'(by omega)) = true) : trimH ((l.drop a).take (b - a)) = trimH ((l.drop a).take (b - 1 - a)) := by
  rw [show b - a = (b - 1 - a) + 1 by omega, List.take_succ_eq_append_getElem (by rw [List.length_drop]; omega)]
  have e : (l.drop a)[b - 1 - a]'(by rw [List.length_drop]; omega) = l[b - 1]'(by omega) := by
    simp only [List.getElem_drop, show a + (b - 1 - a) = b - 1 by omega]
  rw [e, trim_back h]
theorem trim_done {l : TextH} {a b : Nat} (hab : a ≤ b) (hb : b ≤ l.length) (h1 : ∀ h : a < b, blankH (l[a]'(by omega)) = false) (h2 : ∀ h : a < b, blankH (l[b - 1]'(by omega)) = false) : trimH ((l.drop a).take (b - a)) = (l.drop a).take (b - a) := by
  refine trim_body (fun c r e => ?_) (fun c r e => ?_)
  · have hlt : a < b := by
      rcases Nat.lt_or_ge a b with h | h
      · exact h
      · rw [show b - a = 0 by omega] at e
        cases e
    have := h1 hlt
    rw [List.drop_eq_getElem_cons (by omega), show b - a = (b - a - 1) + 1 by omega, List.take_succ_cons] at e
    rw [← (List.cons.inj e).1]
    exact this
  · have hlt : a < b := by
      rcases Nat.lt_or_ge a b with h | h
      · exact h
      · rw [show b - a = 0 by omega] at e
        simp at e
    have := h2 hlt
    rw [show b - a = (b - 1 - a) + 1 by omega, List.take_succ_eq_append_getElem (by rw [List.length_drop]; omega)] at e
    have e3 := List.append_inj_right' e rfl
    have e2 : (l.drop a)[b - 1 - a]'(by rw [List.length_drop]; omega) = l[b - 1]'(by omega) := by
      simp only [List.getElem_drop, show a + (b - 1 - a) = b - 1 by omega]
    rw [← (List.cons.inj e3).1, e2]
    exact this
/-- Where the name ends. -/
theorem field_none {w : TextH} (h : ∀ j (hj : j < w.length), w[j] ≠ 58) : fieldH w = none := by
  unfold fieldH
  rw [if_neg]
  intro hm
  obtain ⟨j, hj, e⟩ := List.mem_iff_getElem.1 hm
  exact h j hj e
theorem field_cut {w : TextH} {c : Nat} (hc : c < w.length) (h58 : w[c] = 58) (h : ∀ j (hj : j < w.length), j < c → w[j] ≠ 58) : fieldH w = some (w.take c, trimH (w.drop (c + 1))) := by
  have e : w = w.take c ++ 58 :: w.drop (c + 1) := by
    rw [← h58, ← List.drop_eq_getElem_cons hc, List.take_append_drop]
  have hn : ∀ x ∈ w.take c, x ≠ 58 := fun x hx => by
    obtain ⟨j, hj, rfl⟩ := List.mem_iff_getElem.1 hx
    rw [List.length_take] at hj
    rw [List.getElem_take]
    exact h j (by omega) (by omega)
  obtain ⟨a, b⟩ := take_name (w.take c) (w.drop (c + 1)) hn
  unfold fieldH
  rw [if_pos (by rw [e]; simp)]
  conv => lhs; rw [e]
  rw [a, b]
  rfl
/-- Texts, as a row of somebody's own. -/
abbrev TextsOwn (w : World) (B : Nat) (v : Value) (l : List TextH) : Prop := w.ownsRow B 9 1 v l.length ((textsF l).map .string)
theorem wpList_append_text {w : World} {ops : Array Oper} {rest : List Oper} {o : Oper} {a : Act} {Q : Exit → Act → World → Prop} (hgd : o.guard = none) (s x : Operand)
    (ho : o.op = .call { callee := .builtin .append, args := #[s, x], argTypes := #[57, 57] }) (B : Nat) (v : Value) (l : List TextH) (p : TextH) (hs : a.eval s = v) (hown : TextsOwn w B v l) (hB : B ≤ w.heap.size) (hl : l.length ≤ 10000000)
    (b c : Nat) (hx : a.eval x = .slice (some ⟨b, 0, none⟩) 1 c) (h0 : w.cell? ⟨b, 0, none⟩ = some (.string (textQ p)))
    (h : ∀ v' w', TextsOwn w' B v' (l ++ [p]) → w.grownBy w' v.ownBlock → wpList Tryd.prog ops Q rest (a.put o.dst v') w') : wpList Tryd.prog ops Q (o :: rest) a w := by
  obtain ⟨i0, hi, hz0, hz1, hz2⟩ := info_parts infoStr6
  refine wpList_append_own w hgd s x 57 ho B 9 i0 (.string ⟨#[]⟩) 1 16 Tryd.underlying57 hi hz0 hz1 hz2 rfl (by decide) v l.length _ hs hown ⟨b, 0, none⟩ 1 c [.string (textQ p)] hx rfl (fun j u hj => ?_) (fun u hu => ?_) (by unfold maxLen; omega) (by omega) hB (fun v' w' q1 q2 _ => ?_)
  · rw [Addr.add_lit, Nat.zero_add]
    match j, hj with
    | 0, hj => cases hj; exact h0
    | j + 1, hj => cases hj
  · rw [List.mem_singleton.1 hu]
    rfl
  · refine h v' w' ?_ q2
    unfold TextsOwn
    rw [List.length_append, show textsF (l ++ [p]) = textsF l ++ [textQ p] by simp [textsF], List.map_append]
    exact q1
end Go.Proofs.YtneihcdeflfahaaDoor
