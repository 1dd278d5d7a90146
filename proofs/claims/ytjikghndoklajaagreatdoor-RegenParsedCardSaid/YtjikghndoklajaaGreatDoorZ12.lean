/-
  Texts of this proof, put together: F6F.
-/
import Derived.Test.YtjikghndoklajaaGreatDoorZ05
namespace Go.Proofs.YtjikghndoklajaaGreatDoor

theorem lines_parts (s : List UInt8) : ∃ ls r, linesQ s = ls ++ [r] := ⟨_, _, (List.dropLast_concat_getLast (lines_ne s)).symm⟩
theorem parts_inj {a b : List (List UInt8)} {r q : List UInt8} (h : a ++ [r] = b ++ [q]) : a = b ∧ r = q := by
  have := List.append_inj' h rfl
  exact ⟨this.1, by simpa using this.2⟩
theorem lines_app (t : List UInt8) : ∀ (s : List UInt8) (ls : List (List UInt8)) (r : List UInt8), linesQ s = ls ++ [r] → linesQ (s ++ t) = ls ++ linesQ (r ++ t)
  | [], ls, r, h => by
    have := parts_inj (a := []) (r := []) h
    rw [← this.1, ← this.2]
    rfl
  | [c], ls, r, h => by
    have := parts_inj (a := []) (r := [c]) h
    rw [← this.1, ← this.2]
    rfl
  | c :: d :: s, ls, r, h => by
    by_cases he : c = 13 ∧ d = 10
    · rw [he.1, he.2, lines_end] at h
      obtain ⟨l0, r0, h0⟩ := lines_parts s
      rw [h0] at h
      have := parts_inj (a := [] :: l0) (r := r0) h
      rw [he.1, he.2, List.cons_append, List.cons_append, lines_end, lines_app t s l0 r0 h0, ← this.1, ← this.2]
      rfl
    · obtain ⟨l, l1, h1, h2⟩ := lines_cons c d s he
      obtain ⟨l', l2, h3, h4⟩ := lines_cons c d (s ++ t) he
      have e : (c :: d :: s) ++ t = c :: d :: (s ++ t) := rfl
      rcases List.eq_nil_or_concat l1 with rfl | ⟨l0, r0, rfl⟩
      · have hj := join_lines (d :: s)
        rw [h1] at hj
        have hj2 : l = d :: s := hj
        rw [h2, hj2] at h
        have := parts_inj (a := []) (r := c :: d :: s) h
        rw [← this.1, ← this.2]
        rfl
      · rw [List.concat_eq_append] at h1 h2
        rw [h2] at h
        have := parts_inj (a := (c :: l) :: l0) (r := r0) h
        have ih := lines_app t (d :: s) (l :: l0) r0 h1
        rw [List.cons_append, h3] at ih
        simp only [List.cons_append, List.cons.injEq] at ih
        rw [e, h4, ih.1, ih.2, ← this.1, ← this.2]
        rfl
def wholeF (ls : List (List UInt8)) : List UInt8 := ls.flatMap (· ++ [13, 10])
theorem whole_cons (l : List UInt8) (ls : List (List UInt8)) : wholeF (l :: ls) = l ++ 13 :: 10 :: wholeF ls := by simp [wholeF]
theorem join_whole (r : List UInt8) : ∀ ls : List (List UInt8), joinQ (ls ++ [r]) = wholeF ls ++ r
  | [] => rfl
  | l :: ls => by rw [List.cons_append, join_cons _ (by simp), join_whole r ls, whole_cons]; simp
end Go.Proofs.YtjikghndoklajaaGreatDoor
