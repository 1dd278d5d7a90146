/-
  Letters bit by bit, and letters taken one by one: plain facts, of no program: the same letters and bytes as by groups.
-/
import Derived.Test.YtjkcjbbkplonkaaDoorB64F
namespace Go.Proofs.YtjkcjbbkplonkaaDoor

/-- A bit of bytes; 0 behind them. -/
def bitAt (s : List UInt8) (i : Nat) : Nat := (s.getD (i / 8) 0).toNat / 2 ^ (7 - i % 8) % 2
/-- The number of k bits from the i-th one on. -/
def accB (s : List UInt8) (i : Nat) : Nat → Nat
  | 0 => 0
  | k + 1 => 2 * accB s i k + bitAt s (i + k)
theorem bit_shift (a b c : UInt8) (r : List UInt8) (i : Nat) : bitAt (a :: b :: c :: r) (i + 24) = bitAt r i := by
  unfold bitAt
  have h1 : (i + 24) / 8 = i / 8 + 1 + 1 + 1 := by omega
  have h2 : (i + 24) % 8 = i % 8 := by omega
  rw [h1, h2]
  simp [List.getD]
theorem acc_shift (a b c : UInt8) (r : List UInt8) (i : Nat) : ∀ k, accB (a :: b :: c :: r) (i + 24) k = accB r i k
  | 0 => rfl
  | k + 1 => by
    rw [accB, accB, acc_shift a b c r i k]
    congr 1
    rw [show i + 24 + k = (i + k) + 24 by omega]
    exact bit_shift a b c r (i + k)
/-- The letters of the first m numbers of six bits. -/
def sixes (s : List UInt8) (m : Nat) : List UInt8 := (List.range m).map fun j => letterB (accB s (6 * j) 6)
theorem sixes_shift (a b c : UInt8) (r : List UInt8) (m : Nat) : sixes (a :: b :: c :: r) (m + 4) = letterB (accB (a :: b :: c :: r) 0 6) :: letterB (accB (a :: b :: c :: r) 6 6) :: letterB (accB (a :: b :: c :: r) 12 6) :: letterB (accB (a :: b :: c :: r) 18 6) :: sixes r m := by
  unfold sixes
  rw [List.range_succ_eq_map, List.range_succ_eq_map, List.range_succ_eq_map, List.range_succ_eq_map]
  simp only [List.map_cons, List.map_map]
  congr 4
  apply List.map_congr_left
  intro j _
  simp only [Function.comp_apply]
  rw [show 6 * (((j.succ).succ).succ).succ = 6 * j + 24 by omega, acc_shift]
theorem acc_six (s : List UInt8) (i : Nat) : accB s i 6 = 32 * bitAt s i + 16 * bitAt s (i + 1) + 8 * bitAt s (i + 2) + 4 * bitAt s (i + 3) + 2 * bitAt s (i + 4) + bitAt s (i + 5) := by
  simp only [accB, Nat.add_zero]
  omega
theorem acc_0 (s : List UInt8) : accB s 0 6 = (s.getD 0 0).toNat / 4 := by
  have ha := (s.getD 0 0).toNat_lt
  rw [acc_six]
  simp only [bitAt, Nat.reduceAdd, Nat.reduceDiv, Nat.reduceMod, Nat.reduceSub, Nat.reducePow]
  omega
theorem acc_1 (s : List UInt8) : accB s 6 6 = (s.getD 0 0).toNat % 4 * 16 + (s.getD 1 0).toNat / 16 := by
  have ha := (s.getD 0 0).toNat_lt
  have hb := (s.getD 1 0).toNat_lt
  rw [acc_six]
  simp only [bitAt, Nat.reduceAdd, Nat.reduceDiv, Nat.reduceMod, Nat.reduceSub, Nat.reducePow]
  omega
theorem acc_2 (s : List UInt8) : accB s 12 6 = (s.getD 1 0).toNat % 16 * 4 + (s.getD 2 0).toNat / 64 := by
  have ha := (s.getD 1 0).toNat_lt
  have hb := (s.getD 2 0).toNat_lt
  rw [acc_six]
  simp only [bitAt, Nat.reduceAdd, Nat.reduceDiv, Nat.reduceMod, Nat.reduceSub, Nat.reducePow]
  omega
theorem acc_3 (s : List UInt8) : accB s 18 6 = (s.getD 2 0).toNat % 64 := by
  have ha := (s.getD 2 0).toNat_lt
  rw [acc_six]
  simp only [bitAt, Nat.reduceAdd, Nat.reduceDiv, Nat.reduceMod, Nat.reduceSub, Nat.reducePow]
  omega
/-- How many numbers of six bits there are. -/
def sixN (n : Nat) : Nat := (8 * n + 5) / 6
/-- LETTERS BIT BY BIT, filled up, are the letters by groups. -/
theorem enc_sixes : ∀ s : List UInt8, encB s = sixes s (sixN s.length) ++ List.replicate ((4 - sixN s.length % 4) % 4) 61
  | [] => by simp [encB, sixN, sixes]
  | [a] => by
    rw [show sixN [a].length = 2 by simp [sixN], encB]
    unfold sixes
    simp only [List.range_succ_eq_map, List.range_zero, List.map_cons, List.map_nil]
    rw [show 6 * 0 = 0 from rfl, show 6 * Nat.succ 0 = 6 from rfl, acc_0, acc_1]
    simp [List.getD, List.replicate]
  | [a, b] => by
    rw [show sixN [a, b].length = 3 by simp [sixN], encB]
    unfold sixes
    simp only [List.range_succ_eq_map, List.range_zero, List.map_cons, List.map_nil]
    rw [show 6 * 0 = 0 from rfl, show 6 * Nat.succ 0 = 6 from rfl, show 6 * Nat.succ (Nat.succ 0) = 12 from rfl, acc_0, acc_1, acc_2]
    simp [List.getD]
  | a :: b :: c :: r => by
    have hn : sixN (a :: b :: c :: r).length = sixN r.length + 4 := by
      unfold sixN
      simp only [List.length_cons]
      omega
    rw [hn, sixes_shift, acc_0, acc_1, acc_2, acc_3, encB, enc_sixes r]
    have hp : (4 - (sixN r.length + 4) % 4) % 4 = (4 - sixN r.length % 4) % 4 := by omega
    rw [hp]
    simp [List.getD]

/-- Letters taken one by one: the bits that are left, how many, the bytes so far. -/
def takeS (v n : Nat) (out : List UInt8) : List UInt8 → Option (List UInt8)
  | [] => some out
  | c :: r => match worthB c with
    | some w => if 8 ≤ n + 6 then takeS ((v * 64 + w) % 2 ^ (n + 6 - 8)) (n + 6 - 8) (out ++ [UInt8.ofNat ((v * 64 + w) / 2 ^ (n + 6 - 8))]) r else takeS (v * 64 + w) (n + 6) out r
    | none => if c = 61 ∧ r.length ≤ 1 then takeS v n out r else none
theorem take_enc : ∀ (s out : List UInt8), takeS 0 0 out (encB s) = some (out ++ s)
  | [], out => by simp [encB, takeS]
  | [a], out => by
    have ha := a.toNat_lt
    rw [encB, takeS, worth_letter _ (by omega)]
    simp only
    rw [if_neg (by omega), takeS, worth_letter _ (by omega)]
    simp only
    rw [if_pos (by omega), takeS, worth_pad]
    simp only
    rw [if_pos (by simp), takeS, worth_pad]
    simp only
    rw [if_pos (by simp), takeS, of_eq (a := a)]
    simp only [Nat.reduceAdd, Nat.reduceSub, Nat.reducePow]
    omega
  | [a, b], out => by
    have ha := a.toNat_lt
    have hb := b.toNat_lt
    rw [encB, takeS, worth_letter _ (by omega)]
    simp only
    rw [if_neg (by omega), takeS, worth_letter _ (by omega)]
    simp only
    rw [if_pos (by omega), takeS, worth_letter _ (by omega)]
    simp only
    rw [if_pos (by omega), takeS, worth_pad]
    simp only
    rw [if_pos (by simp), takeS, of_eq (a := a), of_eq (a := b)]
    · simp
    · simp only [Nat.reduceAdd, Nat.reduceSub, Nat.reducePow]
      omega
    · simp only [Nat.reduceAdd, Nat.reduceSub, Nat.reducePow]
      omega
  | a :: b :: c :: r, out => by
    have ha := a.toNat_lt
    have hb := b.toNat_lt
    have hc := c.toNat_lt
    rw [encB, takeS, worth_letter _ (by omega)]
    simp only
    rw [if_neg (by omega), takeS, worth_letter _ (by omega)]
    simp only
    rw [if_pos (by omega), takeS, worth_letter _ (by omega)]
    simp only
    rw [if_pos (by omega), takeS, worth_letter _ (by omega)]
    simp only
    rw [if_pos (by omega), of_eq (a := a), of_eq (a := b), of_eq (a := c)]
    · have := take_enc r (out ++ [a] ++ [b] ++ [c])
      simp only [Nat.reduceAdd, Nat.reduceSub, Nat.reducePow, Nat.mod_one]
      rw [this]
      simp
    · simp only [Nat.reduceAdd, Nat.reduceSub, Nat.reducePow]
      omega
    · simp only [Nat.reduceAdd, Nat.reduceSub, Nat.reducePow]
      omega
    · simp only [Nat.reduceAdd, Nat.reduceSub, Nat.reducePow]
      omega
/-- What taking letters one by one and encoding again comes to. -/
def refDecB (t : List UInt8) : Option (List UInt8) := match takeS 0 0 [] t with
  | some s => if encB s = t then some s else none
  | none => none
theorem ref_dec (t : List UInt8) : refDecB t = decB t := by
  unfold refDecB
  cases hd : decB t with
  | some s =>
    have he := enc_dec t s hd
    have := take_enc s []
    rw [he] at this
    simp only [this, List.nil_append]
    rw [if_pos he]
  | none =>
    cases ht : takeS 0 0 [] t with
    | none => rfl
    | some s =>
      simp only
      by_cases he : encB s = t
      · rw [← he, dec_enc] at hd
        cases hd
      · rw [if_neg he]
end Go.Proofs.YtjkcjbbkplonkaaDoor
