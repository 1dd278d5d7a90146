/-
  Texts of this proof, put together: W5F.
-/
import Derived.Test.YtjikghndoklajaaGreatDoorZ02
import Derived.Lib.IndexMore
import Derived.Lib.Strings
namespace Go.Proofs.YtjikghndoklajaaGreatDoor

/-! ## A text in pieces -/

def splitB (c : UInt8) : List UInt8 → List (List UInt8)
  | [] => [[]]
  | b :: r => if b = c then [] :: splitB c r else ((b :: (splitB c r).headD []) :: (splitB c r).tail)
theorem splitB_none (c : UInt8) : ∀ l, Lib.indexByte l c = -1 → splitB c l = [l]
  | [], _ => rfl
  | b :: r, h => by
    unfold Lib.indexByte at h
    by_cases e : b = c
    · subst e; simp at h
    · rw [if_neg (by simpa using e)] at h
      have hr : Lib.indexByte r c = -1 := by
        have := Lib.indexByte_ge r c
        split at h
        · rename_i h1; simpa using h1
        · omega
      unfold splitB
      rw [if_neg e, splitB_none c r hr]
      rfl
theorem splitB_some (c : UInt8) : ∀ l (i : Nat), Lib.indexByte l c = i → i < l.length ∧ splitB c l = l.take i :: splitB c (l.drop (i + 1))
  | [], i, h => by simp [Lib.indexByte] at h
  | b :: r, i, h => by
    unfold Lib.indexByte at h
    by_cases e : b = c
    · subst e
      rw [if_pos (by simp)] at h
      obtain rfl : i = 0 := by omega
      refine ⟨by simp, ?_⟩
      rw [splitB, if_pos rfl]
      simp
    · rw [if_neg (by simpa using e)] at h
      have hg := Lib.indexByte_ge r c
      split at h
      · omega
      · rename_i h1
        have h1' : Lib.indexByte r c ≠ -1 := by simpa using h1
        obtain ⟨j, hj⟩ := Int.eq_ofNat_of_zero_le (show 0 ≤ Lib.indexByte r c by omega)
        obtain rfl : i = j + 1 := by omega
        obtain ⟨hlt, hs⟩ := splitB_some c r j hj
        refine ⟨by simp; omega, ?_⟩
        rw [splitB, if_neg e, hs]
        simp
/-! ## Reading -/

/-! ## The document's reading -/

end Go.Proofs.YtjikghndoklajaaGreatDoor
