/-
  Lines out of a stream, in pieces; stuffed texts and back: plain facts, of no program.
-/
import Derived.Test.YtneihcdeflfahaaDoorGlue
namespace Go.Proofs.YtneihcdeflfahaaDoor

/-- A line's two bytes at its end. -/
def endB : List UInt8 := [13, 10]
/-- Behind lines that ended, what waits: a text's lines, taken apart. -/
theorem lines_parts (s : List UInt8) : ∃ ls r, linesQ s = ls ++ [r] := ⟨_, _, (List.dropLast_concat_getLast (lines_ne s)).symm⟩
theorem parts_inj {a b : List (List UInt8)} {r q : List UInt8} (h : a ++ [r] = b ++ [q]) : a = b ∧ r = q := by
  have := List.append_inj' h rfl
  exact ⟨this.1, by simpa using this.2⟩
/-- MORE BYTES: they go on with what waits. -/
theorem lines_app (t : List UInt8) : ∀ (s : List UInt8) (ls : List (List UInt8)) (r : List UInt8), linesQ s = ls ++ [r] → linesQ (s ++ t) = ls ++ linesQ (r ++ t)
  | [], ls, r, h => by
    have := parts_inj (a := []) (r := []) h
    rw [← this.1, ← this.2]
    rfl
  | [c], ls, r, h => by
    have := parts_inj (a := []) (r := [c]) h
    rw [← this.1, ← this.2]
    rfl
  | c :: d :: s, ls, r, h => by
    by_cases he : c = 13 ∧ d = 10
    · rw [he.1, he.2, lines_end] at h
      obtain ⟨l0, r0, h0⟩ := lines_parts s
      rw [h0] at h
      have := parts_inj (a := [] :: l0) (r := r0) h
      rw [he.1, he.2, List.cons_append, List.cons_append, lines_end, lines_app t s l0 r0 h0, ← this.1, ← this.2]
      rfl
    · obtain ⟨l, l1, h1, h2⟩ := lines_cons c d s he
      obtain ⟨l', l2, h3, h4⟩ := lines_cons c d (s ++ t) he
      have e : (c :: d :: s) ++ t = c :: d :: (s ++ t) := rfl
      rcases List.eq_nil_or_concat l1 with rfl | ⟨l0, r0, rfl⟩
      · have hj := join_lines (d :: s)
        rw [h1] at hj
        have hj2 : l = d :: s := hj
        rw [h2, hj2] at h
        have := parts_inj (a := []) (r := c :: d :: s) h
        rw [← this.1, ← this.2]
        rfl
      · rw [List.concat_eq_append] at h1 h2
        rw [h2] at h
        have := parts_inj (a := (c :: l) :: l0) (r := r0) h
        have ih := lines_app t (d :: s) (l :: l0) r0 h1
        rw [List.cons_append, h3] at ih
        simp only [List.cons_append, List.cons.injEq] at ih
        rw [e, h4, ih.1, ih.2, ← this.1, ← this.2]
        rfl
/-- What waits has no end in it. -/
theorem lines_clean : ∀ (s : List UInt8) (l : List UInt8), l ∈ linesQ s → linesQ l = [l]
  | [], l, h => by
    obtain rfl : l = [] := by simpa [linesQ] using h
    rfl
  | [c], l, h => by
    obtain rfl : l = [c] := by simpa [linesQ] using h
    rfl
  | c :: d :: s, l, h => by
    by_cases he : c = 13 ∧ d = 10
    · rw [he.1, he.2, lines_end] at h
      rcases List.mem_cons.1 h with rfl | h
      · rfl
      · exact lines_clean s l h
    · obtain ⟨l0, l1, h1, h2⟩ := lines_cons c d s he
      rw [h2] at h
      rcases List.mem_cons.1 h with rfl | h
      · have ih := lines_clean (d :: s) l0 (by rw [h1]; exact List.mem_cons_self)
        cases l0 with
        | nil => rfl
        | cons x l0 =>
          have hx : x = d := by
            have hj := join_lines (d :: s)
            rw [h1] at hj
            cases l1 with
            | nil => exact (List.cons.inj (show x :: l0 = d :: s from hj)).1
            | cons y l1 =>
              rw [join_cons _ (by simp)] at hj
              exact (List.cons.inj (show x :: (l0 ++ 13 :: 10 :: joinQ (y :: l1)) = d :: s from hj)).1
          subst hx
          obtain ⟨l2, l3, h3, h4⟩ := lines_cons c x l0 he
          rw [ih] at h3
          cases h3
          exact h4
      · exact lines_clean (d :: s) l (by rw [h1]; exact List.mem_cons_of_mem _ h)
theorem rest_clean {s r : List UInt8} {ls : List (List UInt8)} (h : linesQ s = ls ++ [r]) : linesQ r = [r] := lines_clean s r (by rw [h]; simp)
/-- One byte more behind what waits. -/
theorem lines_snoc_end : ∀ (r : List UInt8), linesQ r = [r] → r.getLast? = some 13 → linesQ (r ++ [10]) = [r.dropLast, []]
  | [], _, h => by cases h
  | [c], _, h => by
    obtain rfl : c = 13 := by simpa using h
    rfl
  | c :: d :: r, h0, h => by
    by_cases he : c = 13 ∧ d = 10
    · rw [he.1, he.2, lines_end] at h0
      have := congrArg List.length h0
      have := List.length_pos_iff.2 (lines_ne r)
      simp at *
    · obtain ⟨l, l1, h1, h2⟩ := lines_cons c d r he
      rw [h2] at h0
      simp only [List.cons.injEq, true_and] at h0
      obtain ⟨rfl, rfl⟩ := h0
      have ih := lines_snoc_end (d :: r) h1 (by simpa using h)
      obtain ⟨l2, l3, h3, h4⟩ := lines_cons c d (r ++ [10]) he
      rw [List.cons_append, h3] at ih
      simp only [List.cons.injEq] at ih
      show linesQ (c :: d :: (r ++ [10])) = _
      rw [h4, ih.1, ih.2]
      rfl
theorem lines_snoc_byte (x : UInt8) : ∀ (r : List UInt8), linesQ r = [r] → ¬ (r.getLast? = some 13 ∧ x = 10) → linesQ (r ++ [x]) = [r ++ [x]]
  | [], _, _ => rfl
  | [c], _, h => by
    obtain ⟨l, l1, h1, h2⟩ := lines_cons c x [] (fun e => h ⟨by simp [e.1], e.2⟩)
    cases h1
    exact h2
  | c :: d :: r, h0, h => by
    by_cases he : c = 13 ∧ d = 10
    · rw [he.1, he.2, lines_end] at h0
      have := congrArg List.length h0
      have := List.length_pos_iff.2 (lines_ne r)
      simp at *
    · obtain ⟨l, l1, h1, h2⟩ := lines_cons c d r he
      rw [h2] at h0
      simp only [List.cons.injEq, true_and] at h0
      obtain ⟨rfl, rfl⟩ := h0
      have ih := lines_snoc_byte x (d :: r) h1 (by simpa using h)
      obtain ⟨l2, l3, h3, h4⟩ := lines_cons c d (r ++ [x]) he
      rw [List.cons_append, h3] at ih
      simp only [List.cons.injEq] at ih
      show linesQ (c :: d :: (r ++ [x])) = _
      rw [h4, ih.1, ih.2]
      rfl

/-- Is a 13 the last byte that waits? -/
def halfF (r : List UInt8) : Bool := decide (r.getLast? = some 13)
/-- What waits but for such a 13. -/
def bodyF (r : List UInt8) : List UInt8 := if halfF r then r.dropLast else r
/-- What a framer keeps of it. -/
def keptF (l : List UInt8) : List UInt8 := if 998 < l.length then [] else l
def longF (l : List UInt8) : Bool := decide (998 < l.length)
theorem half_nil : halfF [] = false := rfl
theorem body_nil : bodyF [] = [] := rfl
theorem half_snoc (r : List UInt8) (c : UInt8) : halfF (r ++ [c]) = decide (c = 13) := by
  unfold halfF
  simp
theorem body_snoc_13 (r : List UInt8) : bodyF (r ++ [13]) = r := by
  unfold bodyF
  rw [half_snoc]
  simp
theorem body_snoc {c : UInt8} (h : c ≠ 13) (r : List UInt8) : bodyF (r ++ [c]) = r ++ [c] := by
  unfold bodyF
  rw [half_snoc]
  simp [h]
theorem body_no {r : List UInt8} (h : halfF r = false) : bodyF r = r := by unfold bodyF; rw [h]; rfl
theorem body_yes {r : List UInt8} (h : halfF r = true) : r = bodyF r ++ [13] := by
  unfold bodyF
  rw [if_pos h]
  unfold halfF at h
  simp only [decide_eq_true_eq] at h
  cases hr : r with
  | nil => rw [hr] at h; cases h
  | cons a l =>
    rw [hr] at h
    have h2 := List.dropLast_concat_getLast (l := a :: l) (by simp)
    have h3 : (a :: l).getLast (by simp) = 13 := by
      rw [List.getLast?_eq_some_getLast (by simp)] at h
      exact Option.some.inj h
    rw [h3] at h2
    exact h2.symm
theorem body_len (r : List UInt8) : r.length = (bodyF r).length + (if halfF r then 1 else 0) := by
  cases h : halfF r with
  | false => rw [body_no h]; rfl
  | true =>
    have := body_yes h
    conv => lhs; rw [this]
    simp
/-- What waits, at most 999. -/
def waitF (r : List UInt8) : Nat := min r.length 999
theorem wait_long {r : List UInt8} (h : longF (bodyF r) = true) : waitF r = 999 := by
  have := body_len r
  unfold longF at h
  unfold waitF
  simp only [decide_eq_true_eq] at h
  split at this <;> omega
theorem wait_half {r : List UInt8} (h : longF (bodyF r) = false) (h2 : halfF r = true) : waitF r = (keptF (bodyF r)).length + 1 := by
  have := body_len r
  unfold longF at h
  unfold waitF keptF
  simp only [decide_eq_false_iff_not] at h
  rw [if_neg h]
  rw [h2] at this
  simp only [if_true] at this
  omega
theorem wait_plain {r : List UInt8} (h : longF (bodyF r) = false) (h2 : halfF r = false) : waitF r = (keptF (bodyF r)).length := by
  have := body_len r
  unfold longF at h
  unfold waitF keptF
  simp only [decide_eq_false_iff_not] at h
  rw [if_neg h]
  rw [h2] at this
  simp only [Bool.false_eq_true, if_false] at this
  omega
/-- One byte laid to what is kept. -/
theorem kept_more {l : List UInt8} (h : longF l = false) (h2 : l.length ≠ 998) (c : UInt8) : keptF (l ++ [c]) = keptF l ++ [c] ∧ longF (l ++ [c]) = false := by
  unfold longF at h
  simp only [decide_eq_false_iff_not] at h
  unfold keptF longF
  rw [if_neg h, if_neg (by simp; omega)]
  exact ⟨rfl, by simp; omega⟩
theorem kept_full {l : List UInt8} (h : longF l = true ∨ (keptF l).length = 998) (c : UInt8) : keptF (l ++ [c]) = [] ∧ longF (l ++ [c]) = true := by
  have : 998 ≤ l.length := by
    rcases h with h | h
    · unfold longF at h
      simp only [decide_eq_true_eq] at h
      omega
    · unfold keptF at h
      split at h
      · cases h
      · omega
  unfold keptF longF
  rw [if_pos (by simp; omega)]
  exact ⟨rfl, by simp; omega⟩
theorem kept_len (l : List UInt8) : (keptF l).length ≤ 998 := by
  unfold keptF
  split
  · simp
  · omega
theorem kept_long {l : List UInt8} (h : longF l = true) : keptF l = [] := by
  unfold longF at h
  unfold keptF
  rw [if_pos (by simpa using h)]
theorem kept_short {l : List UInt8} (h : longF l = false) : keptF l = l := by
  unfold longF at h
  unfold keptF
  rw [if_neg (by simpa using h)]
theorem feed_end {r : List UInt8} (hc : linesQ r = [r]) (h : halfF r = true) : linesQ (r ++ [10]) = [bodyF r, []] := by
  rw [lines_snoc_end r hc (by unfold halfF at h; simpa using h)]
  unfold bodyF
  rw [if_pos h]
theorem feed_byte {r : List UInt8} {c : UInt8} (hc : linesQ r = [r]) (h : (halfF r && decide (c = 10)) = false) : linesQ (r ++ [c]) = [r ++ [c]] := by
  refine lines_snoc_byte c r hc fun e => ?_
  unfold halfF at h
  rw [decide_eq_true e.1, decide_eq_true e.2] at h
  cases h

/-- A line that begins with a dot has one more. -/
def dotF (l : List UInt8) : List UInt8 := if l.head? = some 46 then 46 :: l else l
/-- Lines, each with its end. -/
def wholeF (ls : List (List UInt8)) : List UInt8 := ls.flatMap (· ++ [13, 10])
/-- Lines stuffed, the line of one dot behind. -/
def stuffF (ls : List (List UInt8)) : List UInt8 := wholeF (ls.map dotF) ++ [46, 13, 10]
theorem whole_nil : wholeF [] = [] := rfl
theorem whole_cons (l : List UInt8) (ls : List (List UInt8)) : wholeF (l :: ls) = l ++ 13 :: 10 :: wholeF ls := by simp [wholeF]
theorem whole_snoc (ls : List (List UInt8)) (l : List UInt8) : wholeF (ls ++ [l]) = wholeF ls ++ (l ++ [13, 10]) := by simp [wholeF]
theorem join_whole (r : List UInt8) : ∀ ls : List (List UInt8), joinQ (ls ++ [r]) = wholeF ls ++ r
  | [] => rfl
  | l :: ls => by rw [List.cons_append, join_cons _ (by simp), join_whole r ls, whole_cons]; simp
theorem lines_whole (t : List UInt8) : ∀ ls : List (List UInt8), (∀ l ∈ ls, linesQ l = [l]) → linesQ (wholeF ls ++ t) = ls ++ linesQ t
  | [], _ => rfl
  | l :: ls, h => by
    have e : wholeF (l :: ls) ++ t = l ++ 13 :: 10 :: (wholeF ls ++ t) := by rw [whole_cons]; simp
    rw [e, lines_append, h l (by simp), lines_whole t ls (fun x hx => h x (by simp [hx]))]
    rfl
theorem dot_clean {l : List UInt8} (h : linesQ l = [l]) : linesQ (dotF l) = [dotF l] := by
  unfold dotF
  split
  · cases l with
    | nil => rfl
    | cons d r =>
      obtain ⟨l2, ls, h1, h2⟩ := lines_cons 46 d r (by simp)
      rw [h] at h1
      cases h1
      exact h2
  · exact h
theorem dot_clean_all {ls : List (List UInt8)} (h : ∀ l ∈ ls, linesQ l = [l]) : ∀ l ∈ ls.map dotF, linesQ l = [l] := by
  intro l hl
  obtain ⟨x, hx, rfl⟩ := List.mem_map.1 hl
  exact dot_clean (h x hx)
/-- The lines of a stuffed text, whatever stands behind. -/
theorem lines_stuff {ls : List (List UInt8)} (h : ∀ l ∈ ls, linesQ l = [l]) (more : List UInt8) : linesQ (stuffF ls ++ more) = ls.map dotF ++ ([46] :: linesQ more) := by
  unfold stuffF
  rw [List.append_assoc, lines_whole _ _ (dot_clean_all h)]
  show ls.map dotF ++ linesQ ([46] ++ 13 :: 10 :: more) = _
  rw [lines_append]
  rfl
theorem dot_ne (l : List UInt8) : dotF l ≠ [46] := by
  unfold dotF
  split
  · rename_i h
    intro e
    simp only [List.cons.injEq, true_and] at e
    rw [e] at h
    cases h
  · rename_i h
    intro e
    rw [e] at h
    exact h rfl
/-- A line with its dot off. -/
def undotF (l : List UInt8) : List UInt8 := if l.head? = some 46 then l.tail else l
/-- Has a line one dot ahead of more? -/
def badF (l : List UInt8) : Bool := decide (l.head? = some 46) && decide (l.tail.head? ≠ some 46)
theorem undot_dot (l : List UInt8) : undotF (dotF l) = l := by
  unfold dotF
  split
  · rfl
  · rename_i h
    unfold undotF
    rw [if_neg h]
theorem bad_dot (l : List UInt8) : badF (dotF l) = false := by
  unfold dotF
  split
  · rename_i h
    unfold badF
    simp [h]
  · rename_i h
    unfold badF
    simp [h]
/-- Lines up to the one of one dot: their text, and the lines behind. -/
def unL : List (List UInt8) → Option (List UInt8 × List (List UInt8))
  | [] => none
  | [_] => none
  | l :: m :: ls => if l = [46] then some ([], m :: ls) else if badF l then none else (unL (m :: ls)).map fun x => (undotF l ++ 13 :: 10 :: x.1, x.2)
/-- A text unstuffed: its text, and what stands behind. -/
def unF (s : List UInt8) : Option (List UInt8 × List UInt8) := (unL (linesQ s)).map fun x => (x.1, joinQ x.2)
theorem unL_one (l : List UInt8) : unL [l] = none := rfl
theorem unL_dot {ls : List (List UInt8)} (h : ls ≠ []) : unL ([46] :: ls) = some ([], ls) := by
  cases ls with
  | nil => exact absurd rfl h
  | cons m ls => rfl
theorem unL_bad {l : List UInt8} (h1 : l ≠ [46]) (h2 : badF l = true) (ls : List (List UInt8)) : unL (l :: ls) = none := by
  cases ls with
  | nil => rfl
  | cons m ls => rw [unL, if_neg h1, if_pos h2]
theorem unL_more {l : List UInt8} {ls : List (List UInt8)} (h : ls ≠ []) (h1 : l ≠ [46]) (h2 : badF l = false) : unL (l :: ls) = (unL ls).map fun x => (undotF l ++ 13 :: 10 :: x.1, x.2) := by
  cases ls with
  | nil => exact absurd rfl h
  | cons m ls => rw [unL, if_neg h1, if_neg (by rw [h2]; simp)]
theorem unL_stuff (rest : List (List UInt8)) (hr : rest ≠ []) : ∀ ls : List (List UInt8), unL (ls.map dotF ++ [46] :: rest) = some (wholeF ls, rest)
  | [] => unL_dot hr
  | l :: ls => by
    rw [List.map_cons, List.cons_append, unL_more (by simp) (dot_ne l) (bad_dot l), unL_stuff rest hr ls, undot_dot, whole_cons]
    rfl
/-- THERE AND BACK: what was stuffed is unstuffed, whatever stands behind. -/
theorem un_stuff {ls : List (List UInt8)} (h : ∀ l ∈ ls, linesQ l = [l]) (more : List UInt8) : unF (stuffF ls ++ more) = some (wholeF ls, more) := by
  unfold unF
  rw [lines_stuff h, unL_stuff _ (lines_ne more)]
  show some (wholeF ls, joinQ (linesQ more)) = _
  rw [join_lines]
theorem unL_len : ∀ (ls : List (List UInt8)) (x : List UInt8 × List (List UInt8)), unL ls = some x → x.1.length ≤ (joinQ ls).length ∧ (joinQ x.2).length ≤ (joinQ ls).length
  | [], x, h => by cases h
  | [_], x, h => by cases h
  | l :: m :: ls, x, h => by
    rw [join_cons l (by simp)]
    rw [unL] at h
    split at h
    · cases h
      simp only [List.length_append, List.length_cons, List.length_nil]
      omega
    · split at h
      · cases h
      · cases hu : unL (m :: ls) with
        | none => rw [hu] at h; cases h
        | some y =>
          rw [hu] at h
          cases h
          have ih := unL_len (m :: ls) y hu
          have : (undotF l).length ≤ l.length := by unfold undotF; split <;> simp
          simp only [List.length_append, List.length_cons]
          omega
theorem un_len {s t r : List UInt8} (h : unF s = some (t, r)) : t.length ≤ s.length ∧ r.length ≤ s.length := by
  unfold unF at h
  cases hu : unL (linesQ s) with
  | none => rw [hu] at h; cases h
  | some y =>
    rw [hu] at h
    cases h
    have := unL_len _ y hu
    rw [join_lines] at this
    exact this
theorem stuff_len (ls : List (List UInt8)) : (stuffF ls).length ≤ 2 * (wholeF ls).length + 3 := by
  unfold stuffF
  have : (wholeF (ls.map dotF)).length ≤ 2 * (wholeF ls).length := by
    induction ls with
    | nil => simp [wholeF]
    | cons l ls ih =>
      rw [List.map_cons, whole_cons, whole_cons]
      have : (dotF l).length ≤ l.length + 1 := by unfold dotF; split <;> simp
      simp only [List.length_append, List.length_cons]
      omega
  simp only [List.length_append, List.length_cons, List.length_nil]
  omega
end Go.Proofs.YtneihcdeflfahaaDoor
