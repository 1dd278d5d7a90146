/-
  The letters of one to three bytes, by the number of their bits: plain facts, of no program.
-/
import Derived.Test.YtjkcjbbkplonkaaDoorB64F
namespace Go.Proofs.YtjkcjbbkplonkaaDoor

/-- The number of up to three bytes' bits, the first one highest, of the first k of them. -/
def rowN (s : List UInt8) : Nat → Nat
  | 0 => 0
  | k + 1 => rowN s k + (s.getD k 0).toNat * 2 ^ (16 - 8 * k)
theorem row_0 (s : List UInt8) : rowN s 0 = 0 := rfl
theorem row_1 (s : List UInt8) : rowN s 1 = (s.getD 0 0).toNat * 65536 := by simp [rowN]
theorem row_2 (s : List UInt8) : rowN s 2 = (s.getD 0 0).toNat * 65536 + (s.getD 1 0).toNat * 256 := by
  rw [rowN, row_1]
theorem row_3 (s : List UInt8) : rowN s 3 = (s.getD 0 0).toNat * 65536 + (s.getD 1 0).toNat * 256 + (s.getD 2 0).toNat := by
  rw [rowN, row_2]
  simp
theorem row_lt (s : List UInt8) (k : Nat) (h : k ≤ 3) : rowN s k < 16777216 := by
  have h0 := (s.getD 0 0).toNat_lt
  have h1 := (s.getD 1 0).toNat_lt
  have h2 := (s.getD 2 0).toNat_lt
  rcases (by omega : k = 0 ∨ k = 1 ∨ k = 2 ∨ k = 3) with rfl | rfl | rfl | rfl
  · rw [row_0]; omega
  · rw [row_1]; omega
  · rw [row_2]; omega
  · rw [row_3]; omega
/-- What stands behind a multiple is put to it by 'or', too. -/
theorem or_add (a b i : Nat) (h : b < 2 ^ i) : (a * 2 ^ i) ||| b = a * 2 ^ i + b := by
  rw [Nat.mul_comm a, ← Nat.two_pow_add_eq_or_of_lt h]
theorem row_or (s : List UInt8) (k : Nat) (h : k < 3) : rowN s k ||| ((s.getD k 0).toNat * 2 ^ (16 - 8 * k)) = rowN s (k + 1) := by
  have h0 := (s.getD 0 0).toNat_lt
  have h1 := (s.getD 1 0).toNat_lt
  have h2 := (s.getD 2 0).toNat_lt
  rw [rowN]
  rcases (by omega : k = 0 ∨ k = 1 ∨ k = 2) with rfl | rfl | rfl
  · rw [row_0, Nat.zero_or, Nat.zero_add]
  · rw [row_1]
    have := or_add (s.getD 0 0).toNat ((s.getD 1 0).toNat * 256) 16 (by omega)
    simpa using this
  · rw [row_2]
    have := or_add ((s.getD 0 0).toNat * 256 + (s.getD 1 0).toNat) (s.getD 2 0).toNat 8 (by omega)
    have e : ((s.getD 0 0).toNat * 256 + (s.getD 1 0).toNat) * 2 ^ 8 = (s.getD 0 0).toNat * 65536 + (s.getD 1 0).toNat * 256 := by omega
    rw [e] at this
    simpa using this
/-- The letter at a place of one to three bytes' letters. -/
def rowL (s : List UInt8) (p : Nat) : UInt8 := if p > s.length then 61 else letterB (rowN s s.length / 2 ^ (18 - 6 * p) % 64)
theorem row_letters (s : List UInt8) (h1 : 1 ≤ s.length) (h3 : s.length ≤ 3) : encB s = [rowL s 0, rowL s 1, rowL s 2, rowL s 3] := by
  match s, h1, h3 with
  | [a], _, _ =>
    have ha := a.toNat_lt
    have e : rowN [a] [a].length = a.toNat * 65536 := row_1 [a]
    have l : [a].length = 1 := rfl
    unfold rowL
    rw [encB, e, l, if_neg (by omega), if_neg (by omega), if_pos (by omega), if_pos (by omega)]
    have e0 : a.toNat * 65536 / 2 ^ (18 - 6 * 0) % 64 = a.toNat / 4 := by simp only [Nat.mul_zero, Nat.sub_zero, Nat.reducePow]; omega
    have e1 : a.toNat * 65536 / 2 ^ (18 - 6 * 1) % 64 = a.toNat % 4 * 16 := by simp only [Nat.mul_one, Nat.reduceSub, Nat.reducePow]; omega
    rw [e0, e1]
  | [a, b], _, _ =>
    have ha := a.toNat_lt
    have hb := b.toNat_lt
    have e : rowN [a, b] [a, b].length = a.toNat * 65536 + b.toNat * 256 := row_2 [a, b]
    have l : [a, b].length = 2 := rfl
    unfold rowL
    rw [encB, e, l, if_neg (by omega), if_neg (by omega), if_neg (by omega), if_pos (by omega)]
    have e0 : (a.toNat * 65536 + b.toNat * 256) / 2 ^ (18 - 6 * 0) % 64 = a.toNat / 4 := by simp only [Nat.mul_zero, Nat.sub_zero, Nat.reducePow]; omega
    have e1 : (a.toNat * 65536 + b.toNat * 256) / 2 ^ (18 - 6 * 1) % 64 = a.toNat % 4 * 16 + b.toNat / 16 := by simp only [Nat.mul_one, Nat.reduceSub, Nat.reducePow]; omega
    have e2 : (a.toNat * 65536 + b.toNat * 256) / 2 ^ (18 - 6 * 2) % 64 = b.toNat % 16 * 4 := by simp only [Nat.reduceMul, Nat.reduceSub, Nat.reducePow]; omega
    rw [e0, e1, e2]
  | [a, b, c], _, _ =>
    have ha := a.toNat_lt
    have hb := b.toNat_lt
    have hc := c.toNat_lt
    have e : rowN [a, b, c] [a, b, c].length = a.toNat * 65536 + b.toNat * 256 + c.toNat := row_3 [a, b, c]
    have l : [a, b, c].length = 3 := rfl
    unfold rowL
    rw [encB, e, l, if_neg (by omega), if_neg (by omega), if_neg (by omega), if_neg (by omega), encB]
    have e0 : (a.toNat * 65536 + b.toNat * 256 + c.toNat) / 2 ^ (18 - 6 * 0) % 64 = a.toNat / 4 := by simp only [Nat.mul_zero, Nat.sub_zero, Nat.reducePow]; omega
    have e1 : (a.toNat * 65536 + b.toNat * 256 + c.toNat) / 2 ^ (18 - 6 * 1) % 64 = a.toNat % 4 * 16 + b.toNat / 16 := by simp only [Nat.mul_one, Nat.reduceSub, Nat.reducePow]; omega
    have e2 : (a.toNat * 65536 + b.toNat * 256 + c.toNat) / 2 ^ (18 - 6 * 2) % 64 = b.toNat % 16 * 4 + c.toNat / 64 := by simp only [Nat.reduceMul, Nat.reduceSub, Nat.reducePow]; omega
    have e3 : (a.toNat * 65536 + b.toNat * 256 + c.toNat) / 2 ^ (18 - 6 * 3) % 64 = c.toNat % 64 := by simp only [Nat.reduceMul, Nat.reduceSub, Nat.reducePow]; omega
    rw [e0, e1, e2, e3]
/-- The letters by number, in a row. -/
def lettersB : List UInt8 := (List.range 64).map letterB
theorem letters_get {v : Nat} (h : v < 64) : lettersB[v]? = some (letterB v) := by
  unfold lettersB
  rw [List.getElem?_map, List.getElem?_range h]
  rfl
end Go.Proofs.YtjkcjbbkplonkaaDoor
