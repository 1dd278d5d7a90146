/-
  Texts of this proof, put together: B64R, T64P, R3A, R3E, R3D.
-/
import Derived.Test.YtidlpdiephlkhaaGreatDoorZ05
import Derived.Test.YtidlpdiephlkhaaGreatDoorRows
import Derived.WalkKit
import Derived.WalkSpells
import Derived.WalkLawsBesides
import Derived.Lib.Hide
import Derived.Maps.OwnSet
import Derived.Laws.BytesArg
import Derived.Lib.UnsafeStr
import Derived.Lib.BufferWrite
import Derived.Laws.AppendOwn
import Derived.LoopIn
import Derived.Deep.LoopGhost
import Derived.Deep.QuietTactic
import Derived.BigQuiet
namespace Go.Proofs.YtidlpdiephlkhaaGreatDoor

end Go.Proofs.YtidlpdiephlkhaaGreatDoor
namespace Go.Proofs.YtidlpdiephlkhaaGreatDoor

/-- A byte's worth among the first n letters; 64: none. -/
def tabV (n i : Nat) : Nat := match worthB (UInt8.ofNat i) with
  | some v => if v < n then v else 64
  | none => 64
theorem tab_zero (i : Nat) : tabV 0 i = 64 := by
  unfold tabV
  cases worthB (UInt8.ofNat i) <;> simp
theorem tab_step (n i : Nat) (hn : n < 64) (hi : i < 256) : tabV (n + 1) i = if i = (letterB n).toNat then n else tabV n i := by
  unfold tabV
  by_cases h : i = (letterB n).toNat
  · subst h
    rw [if_pos rfl, UInt8.ofNat_toNat, worth_letter n hn]
    simp
  · rw [if_neg h]
    cases hw : worthB (UInt8.ofNat i) with
    | none => rfl
    | some v =>
      obtain ⟨_, h2⟩ := letter_worth hw
      have hne : v ≠ n := fun e => h (by rw [← e, h2, UInt8.toNat_ofNat_of_lt' (by exact hi)])
      simp only
      by_cases h1 : v < n
      · rw [if_pos h1, if_pos (by omega)]
      · rw [if_neg h1, if_neg (by omega)]
theorem tab_some {c : UInt8} {v : Nat} (h : worthB c = some v) : tabV 64 c.toNat = v ∧ v < 64 := by
  have hv := (letter_worth h).1
  unfold tabV
  rw [UInt8.ofNat_toNat, h]
  exact ⟨if_pos hv, hv⟩
theorem tab_none {c : UInt8} (h : worthB c = none) : tabV 64 c.toNat = 64 := by
  unfold tabV
  rw [UInt8.ofNat_toNat, h]

/-- Letters taken one by one, none of them a filling: the bits that are left, how many, the bytes so far. -/
def devS (v n : Nat) (out : List UInt8) : List UInt8 → Option (Nat × List UInt8)
  | [] => some (v, out)
  | c :: r => match worthB c with
    | some w => if 8 ≤ n + 6 then devS ((v * 64 + w) % 2 ^ (n + 6 - 8)) (n + 6 - 8) (out ++ [UInt8.ofNat ((v * 64 + w) / 2 ^ (n + 6 - 8))]) r else devS (v * 64 + w) (n + 6) out r
    | none => none
/-- Without one filling at the end. -/
def trimB (t : List UInt8) : List UInt8 := if t.getLast? = some 61 then t.dropLast else t
/-- What taking letters one by one comes to, up to two fillings at the end. -/
def devDecB (t : List UInt8) : Option (List UInt8) := if t.length % 4 ≠ 0 then none else
  match devS 0 0 [] (trimB (trimB t)) with
  | some (v, out) => if v = 0 then some out else none
  | none => none

theorem dev_quad (w x y z : UInt8) (out r : List UInt8) : devS 0 0 out (w :: x :: y :: z :: r) = (match quadB w x y z with
    | some l => devS 0 0 (out ++ l) r
    | none => none) := by
  unfold quadB
  cases hw : worthB w with
  | none => simp [devS, hw]
  | some p =>
    cases hx : worthB x with
    | none => simp [devS, hw, hx]
    | some q =>
      cases hy : worthB y with
      | none => simp [devS, hw, hx, hy]
      | some a =>
        cases hz : worthB z with
        | none => simp [devS, hw, hx, hy, hz]
        | some b =>
          have hp := (letter_worth hw).1
          have hq := (letter_worth hx).1
          have ha := (letter_worth hy).1
          have hb := (letter_worth hz).1
          have e1 : ((0 * 64 + p) * 64 + q) / 2 ^ 4 = p * 4 + q / 16 := by omega
          have e2 : ((((0 * 64 + p) * 64 + q) % 2 ^ 4) * 64 + a) / 2 ^ 2 = q % 16 * 16 + a / 4 := by omega
          have e3 : ((((((0 * 64 + p) * 64 + q) % 2 ^ 4) * 64 + a) % 2 ^ 2) * 64 + b) / 2 ^ 0 = a % 4 * 64 + b := by omega
          rw [devS, hw]
          simp only
          rw [if_neg (by omega), devS, hx]
          simp only
          rw [if_pos (by omega), devS, hy]
          simp only
          rw [if_pos (by omega), devS, hz]
          simp only
          rw [if_pos (by omega)]
          simp only [Nat.reduceAdd, Nat.reduceSub]
          rw [e1, e2, e3, Nat.pow_zero, Nat.mod_one]
          simp
theorem trim_cons (a b : UInt8) (l : List UInt8) : trimB (a :: b :: l) = a :: trimB (b :: l) := by
  unfold trimB
  rw [List.getLast?_cons_cons]
  split <;> rfl
theorem trim_len64 (t : List UInt8) : (trimB t).length + 1 ≥ t.length := by
  unfold trimB
  split
  · rw [List.length_dropLast]; omega
  · omega
theorem trim_le (t : List UInt8) : (trimB t).length ≤ t.length := by
  unfold trimB
  split
  · rw [List.length_dropLast]; omega
  · omega
theorem trims_cons (w : UInt8) (l : List UInt8) (h : 3 ≤ l.length) : trimB (trimB (w :: l)) = w :: trimB (trimB l) := by
  match l, h with
  | b :: l, h =>
    rw [trim_cons]
    have := trim_len64 (b :: l)
    cases ht : trimB (b :: l) with
    | nil => rw [ht] at this; simp only [List.length_nil, List.length_cons] at this h; omega
    | cons c r => rw [trim_cons]
theorem trims_four (w x y z : UInt8) (r : List UInt8) (h : 3 ≤ r.length) : trimB (trimB (w :: x :: y :: z :: r)) = w :: x :: y :: z :: trimB (trimB r) := by
  rw [trims_cons _ _ (by simp only [List.length_cons]; omega), trims_cons _ _ (by simp only [List.length_cons]; omega), trims_cons _ _ (by simp only [List.length_cons]; omega), trims_cons _ _ h]
theorem trims_last (w x y z : UInt8) : trimB (trimB [w, x, y, z]) = if z = 61 then (if y = 61 then [w, x] else [w, x, y]) else [w, x, y, z] := by
  unfold trimB
  by_cases hz : z = 61
  · subst hz
    by_cases hy : y = 61
    · subst hy
      simp
    · simp [hy]
  · simp [hz]
theorem dev_last (w x y z : UInt8) (out : List UInt8) : (match devS 0 0 out (trimB (trimB [w, x, y, z])) with
    | some (v, o) => if v = 0 then some o else none
    | none => none) = (match lastB w x y z with
    | some l => some (out ++ l)
    | none => none) := by
  rw [trims_last]
  unfold lastB
  by_cases hz : z = 61
  · rw [if_pos hz, if_pos hz]
    by_cases hy : y = 61
    · rw [if_pos hy, if_pos hy]
      cases hw : worthB w with
      | none => simp [devS, hw]
      | some p =>
        cases hx : worthB x with
        | none => simp [devS, hw, hx]
        | some q =>
          have hp := (letter_worth hw).1
          have hq := (letter_worth hx).1
          have e1 : ((0 * 64 + p) * 64 + q) / 2 ^ 4 = p * 4 + q / 16 := by omega
          have e2 : ((0 * 64 + p) * 64 + q) % 2 ^ 4 = q % 16 := by omega
          rw [devS, hw]
          simp only
          rw [if_neg (by omega), devS, hx]
          simp only
          rw [if_pos (by omega)]
          simp only [Nat.reduceAdd, Nat.reduceSub]
          rw [e1, e2, devS]
          simp only
          split <;> rfl
    · rw [if_neg hy, if_neg hy]
      cases hw : worthB w with
      | none => simp [devS, hw]
      | some p =>
        cases hx : worthB x with
        | none => simp [devS, hw, hx]
        | some q =>
          cases hy2 : worthB y with
          | none => simp [devS, hw, hx, hy2]
          | some a =>
            have hp := (letter_worth hw).1
            have hq := (letter_worth hx).1
            have ha := (letter_worth hy2).1
            have e1 : ((0 * 64 + p) * 64 + q) / 2 ^ 4 = p * 4 + q / 16 := by omega
            have e2 : ((((0 * 64 + p) * 64 + q) % 2 ^ 4) * 64 + a) / 2 ^ 2 = q % 16 * 16 + a / 4 := by omega
            have e3 : ((((0 * 64 + p) * 64 + q) % 2 ^ 4) * 64 + a) % 2 ^ 2 = a % 4 := by omega
            rw [devS, hw]
            simp only
            rw [if_neg (by omega), devS, hx]
            simp only
            rw [if_pos (by omega), devS, hy2]
            simp only
            rw [if_pos (by omega)]
            simp only [Nat.reduceAdd, Nat.reduceSub]
            rw [e1, e2, e3, devS]
            simp only
            split
            · simp
            · rfl
  · rw [if_neg hz, if_neg hz, dev_quad]
    cases quadB w x y z with
    | none => rfl
    | some l => simp [devS]
theorem dev_dec_at : ∀ (t out : List UInt8), t.length % 4 = 0 → (match devS 0 0 out (trimB (trimB t)) with
    | some (v, o) => if v = 0 then some o else none
    | none => none) = (match decB t with
    | some l => some (out ++ l)
    | none => none)
  | [], out, _ => by simp [trimB, devS, decB]
  | [_], _, h => by simp at h
  | [_, _], _, h => by simp at h
  | [_, _, _], _, h => by simp at h
  | w :: x :: y :: z :: r, out, h => by
    rw [decB]
    by_cases hr : r = []
    · subst hr
      rw [if_pos rfl]
      exact dev_last w x y z out
    · have hl : 3 ≤ r.length := by
        have := List.length_pos_iff.2 hr
        simp at h
        omega
      rw [if_neg hr, trims_four _ _ _ _ _ hl, dev_quad]
      cases hq : quadB w x y z with
      | none => rfl
      | some l =>
        simp only
        rw [dev_dec_at r (out ++ l) (by simp at h; omega)]
        cases decB r with
        | none => rfl
        | some q => simp
/-- LETTERS TAKEN ONE BY ONE, the fillings taken off ahead, are the letters' bytes. -/
theorem dev_dec (t : List UInt8) : devDecB t = decB t := by
  unfold devDecB
  by_cases h : t.length % 4 ≠ 0
  · rw [if_pos h]
    cases hd : decB t with
    | none => rfl
    | some s => exact absurd (dec_len hd) h
  · rw [if_neg h]
    have := dev_dec_at t [] (by omega)
    simp only [List.nil_append] at this
    rw [this]
    cases decB t <;> rfl
end Go.Proofs.YtidlpdiephlkhaaGreatDoor
namespace Go.Proofs.YtidlpdiephlkhaaGreatDoor
open Go.RowKit

end Go.Proofs.YtidlpdiephlkhaaGreatDoor
namespace Go.Proofs.YtidlpdiephlkhaaGreatDoor
open Go.RowKit

end Go.Proofs.YtidlpdiephlkhaaGreatDoor
namespace Go.Proofs.YtidlpdiephlkhaaGreatDoor
open Go.RowKit

/-- What decoding hands back. -/
def decV (r : Option (List UInt8)) : Value := match r with
  | some l => .tuple #[.string ⟨l.toArray⟩, .int .i64 0]
  | none => .tuple #[.string ⟨#[]⟩, .int .i64 2]

end Go.Proofs.YtidlpdiephlkhaaGreatDoor
