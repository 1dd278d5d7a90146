/-
  Texts of this proof, put together: A11P, A11B.
-/
import Derived.Test.YtidlpdiephlkhaaGreatDoorT06
import Derived.Lib.TrimByte
import Derived.Lib.Join
namespace Go.Proofs.YtidlpdiephlkhaaGreatDoor

abbrev TextA := List UInt8
def lowA (c : UInt8) : Bool := decide (97 ≤ c.toNat ∧ c.toNat ≤ 122) || decide (48 ≤ c.toNat ∧ c.toNat ≤ 57)
def nameCA (c : UInt8) : Bool := decide (32 ≤ c.toNat ∧ c.toNat ≤ 126)
/-- A word between quotes, behind its first quote: what it says, and what stands behind its last quote; `say`: was the byte ahead a backslash? -/
def hearA : Bool → TextA → TextA → Option (TextA × TextA)
  | _, _, [] => none
  | true, acc, c :: r => hearA false (acc ++ [c]) r
  | false, acc, c :: r => if c = 92 then hearA true acc r else if c = 34 then some (acc, r) else hearA false (acc ++ [c]) r
theorem hear_len : ∀ (s acc : TextA) (say : Bool) (w r : TextA), hearA say acc s = some (w, r) → r.length < s.length
  | [], acc, say, w, r, h => by cases say <;> cases h
  | c :: s, acc, true, w, r, h => by
    have := hear_len s _ false w r h
    simp
    omega
  | c :: s, acc, false, w, r, h => by
    unfold hearA at h
    split at h
    · have := hear_len s _ true w r h
      simp
      omega
    · split at h
      · cases h
        simp
      · have := hear_len s _ false w r h
        simp
        omega
theorem hear_word : ∀ (s acc : TextA) (say : Bool) (w r : TextA), hearA say acc s = some (w, r) → w.length ≤ acc.length + s.length
  | [], acc, say, w, r, h => by cases say <;> cases h
  | c :: s, acc, true, w, r, h => by
    have := hear_word s _ false w r h
    simp at this ⊢
    omega
  | c :: s, acc, false, w, r, h => by
    unfold hearA at h
    split at h
    · have := hear_word s _ true w r h
      simp
      omega
    · split at h
      · cases h
        simp
      · have := hear_word s _ false w r h
        simp at this ⊢
        omega
theorem drop_len (p : UInt8 → Bool) (s : TextA) : (s.dropWhile p).length ≤ s.length := (List.dropWhile_sublist _).length_le
def cutA (c : UInt8) : TextA → Option TextA
  | [] => none
  | d :: r => if d = c then some r else none
theorem cutA_cons (c d : UInt8) (r : TextA) : cutA c (d :: r) = if d = c then some r else none := rfl
theorem cut_lenA {c : UInt8} {s t : TextA} (h : cutA c s = some t) : s = c :: t := by
  cases s with
  | nil => cases h
  | cons d r =>
    rw [cutA_cons] at h
    split at h
    · rename_i hc
      cases h
      rw [hc]
    · cases h
end Go.Proofs.YtidlpdiephlkhaaGreatDoor
namespace Go.Proofs.YtidlpdiephlkhaaGreatDoor

theorem take_end {p : UInt8 → Bool} : ∀ l : TextA, l.all p = true → l.takeWhile p = l ∧ l.dropWhile p = []
  | [], _ => by simp
  | d :: l, h => by
    rw [List.all_cons, Bool.and_eq_true] at h
    obtain ⟨a, b⟩ := take_end l h.2
    simp [h.1, a, b]
end Go.Proofs.YtidlpdiephlkhaaGreatDoor
