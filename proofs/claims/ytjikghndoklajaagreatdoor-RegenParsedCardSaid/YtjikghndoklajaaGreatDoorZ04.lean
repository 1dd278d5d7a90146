/-
  Texts of this proof, put together: A11P, A11B.
-/
import Derived.Test.YtjikghndoklajaaGreatDoorZ03
import Derived.Lib.TrimByte
import Derived.Lib.Join
namespace Go.Proofs.YtjikghndoklajaaGreatDoor

abbrev TextA := List UInt8
def lowA (c : UInt8) : Bool := decide (97 ≤ c.toNat ∧ c.toNat ≤ 122) || decide (48 ≤ c.toNat ∧ c.toNat ≤ 57)
def nameCA (c : UInt8) : Bool := decide (32 ≤ c.toNat ∧ c.toNat ≤ 126)
def tellA (c : UInt8) : TextA := if c = 34 ∨ c = 92 then [92, c] else [c]
def quoteA (n : TextA) : TextA := 34 :: (n.flatMap tellA ++ [34])
def hearA : Bool → TextA → TextA → Option (TextA × TextA)
  | _, _, [] => none
  | true, acc, c :: r => hearA false (acc ++ [c]) r
  | false, acc, c :: r => if c = 92 then hearA true acc r else if c = 34 then some (acc, r) else hearA false (acc ++ [c]) r
theorem hear_len : ∀ (s acc : TextA) (say : Bool) (w r : TextA), hearA say acc s = some (w, r) → r.length < s.length
  | [], acc, say, w, r, h => by cases say <;> cases h
  | c :: s, acc, true, w, r, h => by
    have := hear_len s _ false w r h
    simp
    omega
  | c :: s, acc, false, w, r, h => by
    unfold hearA at h
    split at h
    · have := hear_len s _ true w r h
      simp
      omega
    · split at h
      · cases h
        simp
      · have := hear_len s _ false w r h
        simp
        omega
theorem hear_word : ∀ (s acc : TextA) (say : Bool) (w r : TextA), hearA say acc s = some (w, r) → w.length ≤ acc.length + s.length
  | [], acc, say, w, r, h => by cases say <;> cases h
  | c :: s, acc, true, w, r, h => by
    have := hear_word s _ false w r h
    simp at this ⊢
    omega
  | c :: s, acc, false, w, r, h => by
    unfold hearA at h
    split at h
    · have := hear_word s _ true w r h
      simp
      omega
    · split at h
      · cases h
        simp
      · have := hear_word s _ false w r h
        simp at this ⊢
        omega
theorem drop_len (p : UInt8 → Bool) (s : TextA) : (s.dropWhile p).length ≤ s.length := (List.dropWhile_sublist _).length_le
def cutA (c : UInt8) : TextA → Option TextA
  | [] => none
  | d :: r => if d = c then some r else none
theorem cutA_cons (c d : UInt8) (r : TextA) : cutA c (d :: r) = if d = c then some r else none := rfl
theorem cut_lenA {c : UInt8} {s t : TextA} (h : cutA c s = some t) : s = c :: t := by
  cases s with
  | nil => cases h
  | cons d r =>
    rw [cutA_cons] at h
    split at h
    · rename_i hc
      cases h
      rw [hc]
    · cases h
theorem tell_lenA (c : UInt8) : (tellA c).length ≤ 2 := by
  unfold tellA
  split <;> simp
theorem tells_len : ∀ n : TextA, (n.flatMap tellA).length ≤ 2 * n.length
  | [] => by simp
  | c :: n => by
    have := tells_len n
    have := tell_lenA c
    rw [List.flatMap_cons, List.length_append, List.length_cons]
    omega
end Go.Proofs.YtjikghndoklajaaGreatDoor
namespace Go.Proofs.YtjikghndoklajaaGreatDoor

theorem take_to {p : UInt8 → Bool} (c : UInt8) (r : TextA) (hc : p c = false) : ∀ l : TextA, l.all p = true → (l ++ c :: r).takeWhile p = l ∧ (l ++ c :: r).dropWhile p = c :: r
  | [], _ => by simp [hc]
  | d :: l, h => by
    rw [List.all_cons, Bool.and_eq_true] at h
    obtain ⟨a, b⟩ := take_to c r hc l h.2
    simp [h.1, a, b]
theorem take_end {p : UInt8 → Bool} : ∀ l : TextA, l.all p = true → l.takeWhile p = l ∧ l.dropWhile p = []
  | [], _ => by simp
  | d :: l, h => by
    rw [List.all_cons, Bool.and_eq_true] at h
    obtain ⟨a, b⟩ := take_end l h.2
    simp [h.1, a, b]
theorem hear_tell (r : TextA) : ∀ (n acc : TextA), hearA false acc (n.flatMap tellA ++ 34 :: r) = some (acc ++ n, r)
  | [], acc => by simp [hearA]
  | c :: n, acc => by
    have ih := hear_tell r n (acc ++ [c])
    rw [List.flatMap_cons]
    unfold tellA
    by_cases hc : c = 34 ∨ c = 92
    · rw [if_pos hc]
      show hearA true acc (c :: (n.flatMap tellA ++ 34 :: r)) = _
      show hearA false (acc ++ [c]) (n.flatMap tellA ++ 34 :: r) = _
      rw [ih]
      simp
    · rw [if_neg hc]
      have e : hearA false acc (c :: (n.flatMap tellA ++ 34 :: r)) = hearA false (acc ++ [c]) (n.flatMap tellA ++ 34 :: r) := by
        rw [hearA, if_neg (fun e => hc (.inr e)), if_neg (fun e => hc (.inl e))]
      show hearA false acc (c :: (n.flatMap tellA ++ 34 :: r)) = _
      rw [e, ih]
      simp
end Go.Proofs.YtjikghndoklajaaGreatDoor
