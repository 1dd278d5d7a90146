/-
  Texts of this proof, put together: B64R, T64P, R3A, R3E, R3D.
-/
import Derived.Test.YtidlpdiephlkhaaGreatDoorT05
import Derived.Test.YtidlpdiephlkhaaGreatDoorRows
import Derived.WalkKit
import Derived.WalkSpells
import Derived.WalkLawsBesides
import Derived.Lib.Hide
import Derived.Maps.OwnSet
import Derived.Laws.BytesArg
import Derived.Lib.UnsafeStr
import Derived.Lib.BufferWrite
import Derived.Laws.AppendOwn
import Derived.LoopIn
import Derived.Deep.LoopGhost
import Derived.Deep.QuietTactic
import Derived.BigQuiet
namespace Go.Proofs.YtidlpdiephlkhaaGreatDoor

/-- A bit of bytes; 0 behind them. -/
def bitAt (s : List UInt8) (i : Nat) : Nat := (s.getD (i / 8) 0).toNat / 2 ^ (7 - i % 8) % 2
/-- The number of k bits from the i-th one on. -/
def accB (s : List UInt8) (i : Nat) : Nat → Nat
  | 0 => 0
  | k + 1 => 2 * accB s i k + bitAt s (i + k)
theorem bit_shift (a b c : UInt8) (r : List UInt8) (i : Nat) : bitAt (a :: b :: c :: r) (i + 24) = bitAt r i := by
  unfold bitAt
  have h1 : (i + 24) / 8 = i / 8 + 1 + 1 + 1 := by omega
  have h2 : (i + 24) % 8 = i % 8 := by omega
  rw [h1, h2]
  simp [List.getD]
theorem acc_shift (a b c : UInt8) (r : List UInt8) (i : Nat) : ∀ k, accB (a :: b :: c :: r) (i + 24) k = accB r i k
  | 0 => rfl
  | k + 1 => by
    rw [accB, accB, acc_shift a b c r i k]
    congr 1
    rw [show i + 24 + k = (i + k) + 24 by omega]
    exact bit_shift a b c r (i + k)
/-- The letters of the first m numbers of six bits. -/
def sixes (s : List UInt8) (m : Nat) : List UInt8 := (List.range m).map fun j => letterB (accB s (6 * j) 6)
theorem sixes_shift (a b c : UInt8) (r : List UInt8) (m : Nat) : sixes (a :: b :: c :: r) (m + 4) = letterB (accB (a :: b :: c :: r) 0 6) :: letterB (accB (a :: b :: c :: r) 6 6) :: letterB (accB (a :: b :: c :: r) 12 6) :: letterB (accB (a :: b :: c :: r) 18 6) :: sixes r m := by
  unfold sixes
  rw [List.range_succ_eq_map, List.range_succ_eq_map, List.range_succ_eq_map, List.range_succ_eq_map]
  simp only [List.map_cons, List.map_map]
  congr 4
  apply List.map_congr_left
  intro j _
  simp only [Function.comp_apply]
  rw [show 6 * (((j.succ).succ).succ).succ = 6 * j + 24 by omega, acc_shift]
theorem acc_six (s : List UInt8) (i : Nat) : accB s i 6 = 32 * bitAt s i + 16 * bitAt s (i + 1) + 8 * bitAt s (i + 2) + 4 * bitAt s (i + 3) + 2 * bitAt s (i + 4) + bitAt s (i + 5) := by
  simp only [accB, Nat.add_zero]
  omega
theorem acc_0 (s : List UInt8) : accB s 0 6 = (s.getD 0 0).toNat / 4 := by
  have ha := (s.getD 0 0).toNat_lt
  rw [acc_six]
  simp only [bitAt, Nat.reduceAdd, Nat.reduceDiv, Nat.reduceMod, Nat.reduceSub, Nat.reducePow]
  omega
theorem acc_1 (s : List UInt8) : accB s 6 6 = (s.getD 0 0).toNat % 4 * 16 + (s.getD 1 0).toNat / 16 := by
  have ha := (s.getD 0 0).toNat_lt
  have hb := (s.getD 1 0).toNat_lt
  rw [acc_six]
  simp only [bitAt, Nat.reduceAdd, Nat.reduceDiv, Nat.reduceMod, Nat.reduceSub, Nat.reducePow]
  omega
theorem acc_2 (s : List UInt8) : accB s 12 6 = (s.getD 1 0).toNat % 16 * 4 + (s.getD 2 0).toNat / 64 := by
  have ha := (s.getD 1 0).toNat_lt
  have hb := (s.getD 2 0).toNat_lt
  rw [acc_six]
  simp only [bitAt, Nat.reduceAdd, Nat.reduceDiv, Nat.reduceMod, Nat.reduceSub, Nat.reducePow]
  omega
theorem acc_3 (s : List UInt8) : accB s 18 6 = (s.getD 2 0).toNat % 64 := by
  have ha := (s.getD 2 0).toNat_lt
  rw [acc_six]
  simp only [bitAt, Nat.reduceAdd, Nat.reduceDiv, Nat.reduceMod, Nat.reduceSub, Nat.reducePow]
  omega
/-- How many numbers of six bits there are. -/
def sixN (n : Nat) : Nat := (8 * n + 5) / 6
/-- LETTERS BIT BY BIT, filled up, are the letters by groups. -/
theorem enc_sixes : ∀ s : List UInt8, encB s = sixes s (sixN s.length) ++ List.replicate ((4 - sixN s.length % 4) % 4) 61
  | [] => by simp [encB, sixN, sixes]
  | [a] => by
    rw [show sixN [a].length = 2 by simp [sixN], encB]
    unfold sixes
    simp only [List.range_succ_eq_map, List.range_zero, List.map_cons, List.map_nil]
    rw [show 6 * 0 = 0 from rfl, show 6 * Nat.succ 0 = 6 from rfl, acc_0, acc_1]
    simp [List.getD, List.replicate]
  | [a, b] => by
    rw [show sixN [a, b].length = 3 by simp [sixN], encB]
    unfold sixes
    simp only [List.range_succ_eq_map, List.range_zero, List.map_cons, List.map_nil]
    rw [show 6 * 0 = 0 from rfl, show 6 * Nat.succ 0 = 6 from rfl, show 6 * Nat.succ (Nat.succ 0) = 12 from rfl, acc_0, acc_1, acc_2]
    simp [List.getD]
  | a :: b :: c :: r => by
    have hn : sixN (a :: b :: c :: r).length = sixN r.length + 4 := by
      unfold sixN
      simp only [List.length_cons]
      omega
    rw [hn, sixes_shift, acc_0, acc_1, acc_2, acc_3, encB, enc_sixes r]
    have hp : (4 - (sixN r.length + 4) % 4) % 4 = (4 - sixN r.length % 4) % 4 := by omega
    rw [hp]
    simp [List.getD]

/-- Letters taken one by one: the bits that are left, how many, the bytes so far. -/
def takeS (v n : Nat) (out : List UInt8) : List UInt8 → Option (List UInt8)
  | [] => some out
  | c :: r => match worthB c with
    | some w => if 8 ≤ n + 6 then takeS ((v * 64 + w) % 2 ^ (n + 6 - 8)) (n + 6 - 8) (out ++ [UInt8.ofNat ((v * 64 + w) / 2 ^ (n + 6 - 8))]) r else takeS (v * 64 + w) (n + 6) out r
    | none => if c = 61 ∧ r.length ≤ 1 then takeS v n out r else none
theorem take_enc : ∀ (s out : List UInt8), takeS 0 0 out (encB s) = some (out ++ s)
  | [], out => by simp [encB, takeS]
  | [a], out => by
    have ha := a.toNat_lt
    rw [encB, takeS, worth_letter _ (by omega)]
    simp only
    rw [if_neg (by omega), takeS, worth_letter _ (by omega)]
    simp only
    rw [if_pos (by omega), takeS, worth_pad]
    simp only
    rw [if_pos (by simp), takeS, worth_pad]
    simp only
    rw [if_pos (by simp), takeS, of_eq (a := a)]
    simp only [Nat.reduceAdd, Nat.reduceSub, Nat.reducePow]
    omega
  | [a, b], out => by
    have ha := a.toNat_lt
    have hb := b.toNat_lt
    rw [encB, takeS, worth_letter _ (by omega)]
    simp only
    rw [if_neg (by omega), takeS, worth_letter _ (by omega)]
    simp only
    rw [if_pos (by omega), takeS, worth_letter _ (by omega)]
    simp only
    rw [if_pos (by omega), takeS, worth_pad]
    simp only
    rw [if_pos (by simp), takeS, of_eq (a := a), of_eq (a := b)]
    · simp
    · simp only [Nat.reduceAdd, Nat.reduceSub, Nat.reducePow]
      omega
    · simp only [Nat.reduceAdd, Nat.reduceSub, Nat.reducePow]
      omega
  | a :: b :: c :: r, out => by
    have ha := a.toNat_lt
    have hb := b.toNat_lt
    have hc := c.toNat_lt
    rw [encB, takeS, worth_letter _ (by omega)]
    simp only
    rw [if_neg (by omega), takeS, worth_letter _ (by omega)]
    simp only
    rw [if_pos (by omega), takeS, worth_letter _ (by omega)]
    simp only
    rw [if_pos (by omega), takeS, worth_letter _ (by omega)]
    simp only
    rw [if_pos (by omega), of_eq (a := a), of_eq (a := b), of_eq (a := c)]
    · have := take_enc r (out ++ [a] ++ [b] ++ [c])
      simp only [Nat.reduceAdd, Nat.reduceSub, Nat.reducePow, Nat.mod_one]
      rw [this]
      simp
    · simp only [Nat.reduceAdd, Nat.reduceSub, Nat.reducePow]
      omega
    · simp only [Nat.reduceAdd, Nat.reduceSub, Nat.reducePow]
      omega
    · simp only [Nat.reduceAdd, Nat.reduceSub, Nat.reducePow]
      omega
/-- What taking letters one by one and encoding again comes to. -/
def refDecB (t : List UInt8) : Option (List UInt8) := match takeS 0 0 [] t with
  | some s => if encB s = t then some s else none
  | none => none
theorem ref_dec (t : List UInt8) : refDecB t = decB t := by
  unfold refDecB
  cases hd : decB t with
  | some s =>
    have he := enc_dec t s hd
    have := take_enc s []
    rw [he] at this
    simp only [this, List.nil_append]
    rw [if_pos he]
  | none =>
    cases ht : takeS 0 0 [] t with
    | none => rfl
    | some s =>
      simp only
      by_cases he : encB s = t
      · rw [← he, dec_enc] at hd
        cases hd
      · rw [if_neg he]
end Go.Proofs.YtidlpdiephlkhaaGreatDoor
namespace Go.Proofs.YtidlpdiephlkhaaGreatDoor

/-- A byte's worth among the first n letters; 64: none. -/
def tabV (n i : Nat) : Nat := match worthB (UInt8.ofNat i) with
  | some v => if v < n then v else 64
  | none => 64
theorem tab_zero (i : Nat) : tabV 0 i = 64 := by
  unfold tabV
  cases worthB (UInt8.ofNat i) <;> simp
theorem tab_step (n i : Nat) (hn : n < 64) (hi : i < 256) : tabV (n + 1) i = if i = (letterB n).toNat then n else tabV n i := by
  unfold tabV
  by_cases h : i = (letterB n).toNat
  · subst h
    rw [if_pos rfl, UInt8.ofNat_toNat, worth_letter n hn]
    simp
  · rw [if_neg h]
    cases hw : worthB (UInt8.ofNat i) with
    | none => rfl
    | some v =>
      obtain ⟨_, h2⟩ := letter_worth hw
      have hne : v ≠ n := fun e => h (by rw [← e, h2, UInt8.toNat_ofNat_of_lt' (by exact hi)])
      simp only
      by_cases h1 : v < n
      · rw [if_pos h1, if_pos (by omega)]
      · rw [if_neg h1, if_neg (by omega)]
theorem tab_some {c : UInt8} {v : Nat} (h : worthB c = some v) : tabV 64 c.toNat = v ∧ v < 64 := by
  have hv := (letter_worth h).1
  unfold tabV
  rw [UInt8.ofNat_toNat, h]
  exact ⟨if_pos hv, hv⟩
theorem tab_none {c : UInt8} (h : worthB c = none) : tabV 64 c.toNat = 64 := by
  unfold tabV
  rw [UInt8.ofNat_toNat, h]

/-- Letters taken one by one, none of them a filling: the bits that are left, how many, the bytes so far. -/
def devS (v n : Nat) (out : List UInt8) : List UInt8 → Option (Nat × List UInt8)
  | [] => some (v, out)
  | c :: r => match worthB c with
    | some w => if 8 ≤ n + 6 then devS ((v * 64 + w) % 2 ^ (n + 6 - 8)) (n + 6 - 8) (out ++ [UInt8.ofNat ((v * 64 + w) / 2 ^ (n + 6 - 8))]) r else devS (v * 64 + w) (n + 6) out r
    | none => none
/-- Without one filling at the end. -/
def trimB (t : List UInt8) : List UInt8 := if t.getLast? = some 61 then t.dropLast else t
/-- What taking letters one by one comes to, up to two fillings at the end. -/
def devDecB (t : List UInt8) : Option (List UInt8) := if t.length % 4 ≠ 0 then none else
  match devS 0 0 [] (trimB (trimB t)) with
  | some (v, out) => if v = 0 then some out else none
  | none => none

theorem dev_quad (w x y z : UInt8) (out r : List UInt8) : devS 0 0 out (w :: x :: y :: z :: r) = (match quadB w x y z with
    | some l => devS 0 0 (out ++ l) r
    | none => none) := by
  unfold quadB
  cases hw : worthB w with
  | none => simp [devS, hw]
  | some p =>
    cases hx : worthB x with
    | none => simp [devS, hw, hx]
    | some q =>
      cases hy : worthB y with
      | none => simp [devS, hw, hx, hy]
      | some a =>
        cases hz : worthB z with
        | none => simp [devS, hw, hx, hy, hz]
        | some b =>
          have hp := (letter_worth hw).1
          have hq := (letter_worth hx).1
          have ha := (letter_worth hy).1
          have hb := (letter_worth hz).1
          have e1 : ((0 * 64 + p) * 64 + q) / 2 ^ 4 = p * 4 + q / 16 := by omega
          have e2 : ((((0 * 64 + p) * 64 + q) % 2 ^ 4) * 64 + a) / 2 ^ 2 = q % 16 * 16 + a / 4 := by omega
          have e3 : ((((((0 * 64 + p) * 64 + q) % 2 ^ 4) * 64 + a) % 2 ^ 2) * 64 + b) / 2 ^ 0 = a % 4 * 64 + b := by omega
          rw [devS, hw]
          simp only
          rw [if_neg (by omega), devS, hx]
          simp only
          rw [if_pos (by omega), devS, hy]
          simp only
          rw [if_pos (by omega), devS, hz]
          simp only
          rw [if_pos (by omega)]
          simp only [Nat.reduceAdd, Nat.reduceSub]
          rw [e1, e2, e3, Nat.pow_zero, Nat.mod_one]
          simp
theorem trim_cons (a b : UInt8) (l : List UInt8) : trimB (a :: b :: l) = a :: trimB (b :: l) := by
  unfold trimB
  rw [List.getLast?_cons_cons]
  split <;> rfl
theorem trim_len64 (t : List UInt8) : (trimB t).length + 1 ≥ t.length := by
  unfold trimB
  split
  · rw [List.length_dropLast]; omega
  · omega
theorem trim_le (t : List UInt8) : (trimB t).length ≤ t.length := by
  unfold trimB
  split
  · rw [List.length_dropLast]; omega
  · omega
theorem trims_cons (w : UInt8) (l : List UInt8) (h : 3 ≤ l.length) : trimB (trimB (w :: l)) = w :: trimB (trimB l) := by
  match l, h with
  | b :: l, h =>
    rw [trim_cons]
    have := trim_len64 (b :: l)
    cases ht : trimB (b :: l) with
    | nil => rw [ht] at this; simp only [List.length_nil, List.length_cons] at this h; omega
    | cons c r => rw [trim_cons]
theorem trims_four (w x y z : UInt8) (r : List UInt8) (h : 3 ≤ r.length) : trimB (trimB (w :: x :: y :: z :: r)) = w :: x :: y :: z :: trimB (trimB r) := by
  rw [trims_cons _ _ (by simp only [List.length_cons]; omega), trims_cons _ _ (by simp only [List.length_cons]; omega), trims_cons _ _ (by simp only [List.length_cons]; omega), trims_cons _ _ h]
theorem trims_last (w x y z : UInt8) : trimB (trimB [w, x, y, z]) = if z = 61 then (if y = 61 then [w, x] else [w, x, y]) else [w, x, y, z] := by
  unfold trimB
  by_cases hz : z = 61
  · subst hz
    by_cases hy : y = 61
    · subst hy
      simp
    · simp [hy]
  · simp [hz]
theorem dev_last (w x y z : UInt8) (out : List UInt8) : (match devS 0 0 out (trimB (trimB [w, x, y, z])) with
    | some (v, o) => if v = 0 then some o else none
    | none => none) = (match lastB w x y z with
    | some l => some (out ++ l)
    | none => none) := by
  rw [trims_last]
  unfold lastB
  by_cases hz : z = 61
  · rw [if_pos hz, if_pos hz]
    by_cases hy : y = 61
    · rw [if_pos hy, if_pos hy]
      cases hw : worthB w with
      | none => simp [devS, hw]
      | some p =>
        cases hx : worthB x with
        | none => simp [devS, hw, hx]
        | some q =>
          have hp := (letter_worth hw).1
          have hq := (letter_worth hx).1
          have e1 : ((0 * 64 + p) * 64 + q) / 2 ^ 4 = p * 4 + q / 16 := by omega
          have e2 : ((0 * 64 + p) * 64 + q) % 2 ^ 4 = q % 16 := by omega
          rw [devS, hw]
          simp only
          rw [if_neg (by omega), devS, hx]
          simp only
          rw [if_pos (by omega)]
          simp only [Nat.reduceAdd, Nat.reduceSub]
          rw [e1, e2, devS]
          simp only
          split <;> rfl
    · rw [if_neg hy, if_neg hy]
      cases hw : worthB w with
      | none => simp [devS, hw]
      | some p =>
        cases hx : worthB x with
        | none => simp [devS, hw, hx]
        | some q =>
          cases hy2 : worthB y with
          | none => simp [devS, hw, hx, hy2]
          | some a =>
            have hp := (letter_worth hw).1
            have hq := (letter_worth hx).1
            have ha := (letter_worth hy2).1
            have e1 : ((0 * 64 + p) * 64 + q) / 2 ^ 4 = p * 4 + q / 16 := by omega
            have e2 : ((((0 * 64 + p) * 64 + q) % 2 ^ 4) * 64 + a) / 2 ^ 2 = q % 16 * 16 + a / 4 := by omega
            have e3 : ((((0 * 64 + p) * 64 + q) % 2 ^ 4) * 64 + a) % 2 ^ 2 = a % 4 := by omega
            rw [devS, hw]
            simp only
            rw [if_neg (by omega), devS, hx]
            simp only
            rw [if_pos (by omega), devS, hy2]
            simp only
            rw [if_pos (by omega)]
            simp only [Nat.reduceAdd, Nat.reduceSub]
            rw [e1, e2, e3, devS]
            simp only
            split
            · simp
            · rfl
  · rw [if_neg hz, if_neg hz, dev_quad]
    cases quadB w x y z with
    | none => rfl
    | some l => simp [devS]
theorem dev_dec_at : ∀ (t out : List UInt8), t.length % 4 = 0 → (match devS 0 0 out (trimB (trimB t)) with
    | some (v, o) => if v = 0 then some o else none
    | none => none) = (match decB t with
    | some l => some (out ++ l)
    | none => none)
  | [], out, _ => by simp [trimB, devS, decB]
  | [_], _, h => by simp at h
  | [_, _], _, h => by simp at h
  | [_, _, _], _, h => by simp at h
  | w :: x :: y :: z :: r, out, h => by
    rw [decB]
    by_cases hr : r = []
    · subst hr
      rw [if_pos rfl]
      exact dev_last w x y z out
    · have hl : 3 ≤ r.length := by
        have := List.length_pos_iff.2 hr
        simp at h
        omega
      rw [if_neg hr, trims_four _ _ _ _ _ hl, dev_quad]
      cases hq : quadB w x y z with
      | none => rfl
      | some l =>
        simp only
        rw [dev_dec_at r (out ++ l) (by simp at h; omega)]
        cases decB r with
        | none => rfl
        | some q => simp
/-- LETTERS TAKEN ONE BY ONE, the fillings taken off ahead, are the letters' bytes. -/
theorem dev_dec (t : List UInt8) : devDecB t = decB t := by
  unfold devDecB
  by_cases h : t.length % 4 ≠ 0
  · rw [if_pos h]
    cases hd : decB t with
    | none => rfl
    | some s => exact absurd (dec_len hd) h
  · rw [if_neg h]
    have := dev_dec_at t [] (by omega)
    simp only [List.nil_append] at this
    rw [this]
    cases decB t <;> rfl
end Go.Proofs.YtidlpdiephlkhaaGreatDoor
namespace Go.Proofs.YtidlpdiephlkhaaGreatDoor
open Go.RowKit

theorem letter_num : ∀ v : Fin 64, (letterB v).toNat = if v.val < 26 then 65 + v.val else if v.val < 52 then 71 + v.val else if v.val < 62 then v.val - 4 else if v.val = 62 then 43 else 47 := by decide +kernel
set_option maxRecDepth 100000 in
set_option maxHeartbeats 1000000 in
theorem r3letter_any (v : Nat) (w : World) (hv : v < 64) :
    Calls Tryz.prog 126 #[.int .i64 v] w fun e w' => e = .returned (.int .u8 ((letterB v).toNat : Int)) ∧ w' = w := by
  have hl := letter_num ⟨v, hv⟩
  simp only at hl
  by_cases h1 : v < 26
  · rw [if_pos h1] at hl
    have hw : (65 : Int) + v = ((letterB v).toNat : Int) := by omega
    have Hw := Lib.hid hw
    clear hl hw
    go_enter Tryz.func126, Tryz.ntmps126
    go_wp2
    go_ret
    exact ⟨by rw [← Hw.out]; rfl, rfl⟩
  rw [if_neg h1] at hl
  by_cases h2 : v < 52
  · rw [if_pos h2] at hl
    have hw : (97 : Int) + v - 26 = ((letterB v).toNat : Int) := by omega
    have Hw := Lib.hid hw
    clear hl hw
    go_enter Tryz.func126, Tryz.ntmps126
    go_wp2
    go_ret
    exact ⟨by rw [← Hw.out]; rfl, rfl⟩
  rw [if_neg h2] at hl
  by_cases h3 : v < 62
  · rw [if_pos h3] at hl
    have hw : (48 : Int) + v - 52 = ((letterB v).toNat : Int) := by omega
    have Hw := Lib.hid hw
    clear hl hw
    go_enter Tryz.func126, Tryz.ntmps126
    go_wp2
    go_ret
    exact ⟨by rw [← Hw.out]; rfl, rfl⟩
  rw [if_neg h3] at hl
  by_cases h4 : v = 62
  · subst h4
    go_enter Tryz.func126, Tryz.ntmps126
    go_wp2
    go_ret
    exact ⟨rfl, rfl⟩
  · obtain rfl : v = 63 := by omega
    go_enter Tryz.func126, Tryz.ntmps126
    go_wp2
    go_ret
    exact ⟨rfl, rfl⟩

set_option maxRecDepth 100000 in
set_option maxHeartbeats 1000000 in
theorem r3bit_any (s : ByteArray) (i : Nat) (w : World) (hs : s.size < 4294967296) (hi : i < 4294967296) :
    Calls Tryz.prog 167 #[.string s, .int .i64 i] w fun e w' => e = .returned (.int .i64 (bitAt s.data.toList i)) ∧ w' = w := by
  by_cases h : i / 8 < s.size
  · have hv : (wrap64 (((s[i / 8]'h).toNat : Int) / 2 ^ (7 - i % 8))).tmod 2 = (bitAt s.data.toList i : Int) := by
      have hg : (s.data.toList.getD (i / 8) 0) = s[i / 8]'h := by
        rw [List.getD, List.getElem?_eq_getElem (by have : s.data.toList.length = s.size := rfl; omega)]
        rfl
      have hx := (s[i / 8]'h).toNat_lt
      unfold bitAt
      rw [hg]
      generalize (s[i / 8]'h).toNat = x at hx ⊢
      have e : ((x : Int) / 2 ^ (7 - i % 8)) = ((x / 2 ^ (7 - i % 8) : Nat) : Int) := by push_cast; rfl
      have hle : x / 2 ^ (7 - i % 8) ≤ x := Nat.div_le_self _ _
      rw [e]
      generalize x / 2 ^ (7 - i % 8) = y at hle ⊢
      rw [IntWalk.wrap64_in _ (by omega), Int.tmod_eq_emod_of_nonneg (Int.natCast_nonneg _)]
      omega
    have Hv := Lib.hid hv
    clear hv
    go_enter Tryz.func167, Tryz.ntmps167
    go_wp2
    go_ret
    exact ⟨by rw [← Hv.out]; rfl, rfl⟩
  · have hb : bitAt s.data.toList i = 0 := by
      unfold bitAt
      rw [List.getD, List.getElem?_eq_none (by have : s.data.toList.length = s.size := rfl; omega)]
      simp
    rw [hb]
    clear hb
    go_enter Tryz.func167, Tryz.ntmps167
    go_wp2
    go_ret
    exact ⟨rfl, rfl⟩
end Go.Proofs.YtidlpdiephlkhaaGreatDoor
namespace Go.Proofs.YtidlpdiephlkhaaGreatDoor
open Go.RowKit

theorem infoB3 : (Tryz.prog.info? 5).map (fun i => (i.zero, i.size, i.bytes)) = some (some (.int .u8 0), 1, 1) := by kernel_rfl
theorem acc_lt (s : List UInt8) (i : Nat) : ∀ k, accB s i k < 2 ^ k
  | 0 => by simp [accB]
  | k + 1 => by
    have ih := acc_lt s i k
    have hb : bitAt s (i + k) < 2 := Nat.mod_lt _ (by omega)
    rw [accB, Nat.pow_succ]
    omega
theorem sixes_succ (s : List UInt8) (m : Nat) : sixes s (m + 1) = sixes s m ++ [letterB (accB s (6 * m) 6)] := by
  unfold sixes
  rw [List.range_succ, List.map_append]
  rfl
set_option maxRecDepth 100000 in
/-- A row of bytes of the call's own, as a text. -/
theorem conv_own {w : World} {base : Nat} {v : Value} {n : Nat} {l : List UInt8} (h : w.ownsRow base 5 1 v n (Lib.byteCells l)) : (convert 67 9 v).run Tryz.prog w = .ok (.string ⟨l.toArray⟩) w := by
  have hl : l.length = n := by
    have := h.1
    rw [Lib.byteCells_length] at this
    omega
  rcases h.2 with ⟨rfl, rfl⟩ | ⟨g, cap, cur, rfl, hb, hg, hnc, hcm, hcs, ht⟩
  · have hn : l = [] := List.eq_nil_of_length_eq_zero hl
    subst hn
    exact run_convert_bytes_nil w 67 5 Tryz.underlying67 Tryz.underlying5 0 0 9 Tryz.underlying9
  · have := run_convert_bytes_arg (P := Tryz.prog) w 67 5 Tryz.underlying67 Tryz.underlying5 g 0 n cap (l.map fun b => (b.toNat : Int)) (by rw [List.length_map, hl]) (fun i hi => by
      have hc := h.cells (g := g) rfl i (.int .u8 ((l.map fun b => (b.toNat : Int)).getD i 0)) (by
        unfold Lib.byteCells
        rw [List.getElem?_map, List.getElem?_eq_getElem (by omega)]
        simp [List.getD, List.getElem?_map, List.getElem?_eq_getElem (show i < l.length by omega)])
      rw [Addr.add_lit] at hc
      exact hc) 9 Tryz.underlying9
    rw [this]
    congr 2
    unfold strOfNums
    congr 1
    simp [List.map_map, Function.comp_def]

set_option maxRecDepth 100000 in
set_option maxHeartbeats 4000000 in
theorem r3enc_any (s : ByteArray) (w : World) (hs : s.size < 400000000) :
    Calls Tryz.prog 127 #[.string s] w fun e w' => e = .returned (.string ⟨(encB s.data.toList).toArray⟩) ∧ Below w.heap.size w w' := by
  obtain ⟨i0, hi, hz0, hz1, hz2⟩ := info_parts infoB3
  have henc := enc_sixes s.data.toList
  have hlen : s.data.toList.length = s.size := rfl
  rw [hlen] at henc
  have hN : sixN s.size = (8 * s.size + 5) / 6 := rfl
  generalize sixN s.size = N at henc hN
  have Henc := Lib.hid henc
  have hNle : 6 * N ≤ 8 * s.size + 5 := by omega
  have hNge : 8 * s.size ≤ 6 * N := by omega
  have hown0 : w.ownsRow w.heap.size 5 1 (.slice none 0 0) 0 (Lib.byteCells (sixes s.data.toList 0)) := World.ownsRow_nil _ _ _ _
  clear henc hlen hN
  go_enter Tryz.func127, Tryz.ntmps127
  go_wp2
  go_loopw [3, 4, 5, 6] (fun o i _ _ wr => ∃ (m : Nat) (v : Value), m ≤ N ∧ i = .int .i64 ((6 * m : Nat) : Int) ∧ o = v ∧ wr.ownsRow w.heap.size 5 1 v m (Lib.byteCells (sixes s.data.toList m)) ∧ Below w.heap.size w wr) (fun _ i _ _ _ => 6 * N - (intOf i).toNat)
  case atStart => exact ⟨0, _, Nat.zero_le _, rfl, rfl, hown0, Below.refl _ _⟩
  case round =>
    obtain ⟨m, v, hm, rfl, hv, hown, hbr⟩ := hrel
    subst hv
    have hbz := hbr.size
    by_cases hlt : m < N
    · have hss := sixes_succ s.data.toList m
      obtain ⟨q, hq⟩ : ∃ q, 6 * m = q := ⟨_, rfl⟩
      have hq1 : q < 8 * s.size := by omega
      have hq2 : q < 3200000000 := by omega
      have hq3 : 6 * (m + 1) = q + 6 := by omega
      rw [hq] at hss ⊢
      have hacc := acc_lt s.data.toList q
      have Hss := Lib.hid hss
      have Hacc := Lib.hid hacc
      have Hq3 := Lib.hid hq3
      have hd : decide ((q : Int) < 8 * (s.size : Int)) = true := decide_eq_true (by omega)
      clear hss hq hacc hq3
      go_wp2
      go_loop [5, 6] (fun vv kv => ∃ kk : Nat, kk ≤ 6 ∧ kv = .int .i64 kk ∧ vv = .int .i64 (accB s.data.toList q kk)) (fun _ kv => 6 - (intOf kv).toNat)
      case atStart => exact ⟨0, by omega, rfl, rfl⟩
      case round =>
        obtain ⟨kk, hk, rfl, rfl⟩ := hrel
        by_cases hk6 : kk < 6
        · have hA : accB s.data.toList q kk < 64 := Nat.lt_of_lt_of_le (Hacc.out kk) (show 2 ^ kk ≤ 2 ^ 6 from Nat.pow_le_pow_right (by omega) (by omega))
          have hb2 : bitAt s.data.toList (q + kk) < 2 := Nat.mod_lt _ (by omega)
          have hst : accB s.data.toList q (kk + 1) = 2 * accB s.data.toList q kk + bitAt s.data.toList (q + kk) := rfl
          have hcall := r3bit_any s (q + kk) wr (by omega) (by omega)
          rw [Int.natCast_add] at hcall
          generalize accB s.data.toList q kk = a at hA hst ⊢
          generalize bitAt s.data.toList (q + kk) = b at hb2 hst hcall
          have Hst := Lib.hid hst
          clear hst
          go_wp2_with fail
          refine hcall.mono ?_
          rintro e w' ⟨rfl, hw'⟩
          rw [hw']
          clear hw' hcall
          go_wp2
          go_round
          case rel => exact ⟨kk + 1, by omega, by go_num, by rw [Hst.out]; push_cast; rfl⟩
          case measure => simp [intOf]; omega
        · obtain rfl : kk = 6 := by omega
          have hA : accB s.data.toList q 6 < 64 := Hacc.out 6
          have hcall := r3letter_any (accB s.data.toList q 6) wr hA
          generalize letterB (accB s.data.toList q 6) = x at hcall Hss
          generalize accB s.data.toList q 6 = a at hA hcall ⊢
          go_wp2_with fail
          refine hcall.mono ?_
          rintro e w' ⟨rfl, hw'⟩
          rw [hw']
          clear hw' hcall
          have hown2 := hown.alloc (.cells #[.int .u8 (x.toNat : Int)] 5)
          go_wp2_with (at_builtin; refine wpList_append_own _ rfl _ _ 67 rfl w.heap.size 5 i0 (.int .u8 0) 1 1 Tryz.underlying67 hi hz0 hz1 hz2 rfl (by decide) _ m _ rfl hown2 ⟨wr.heap.size, 0, none⟩ 1 1 [.int .u8 (x.toNat : Int)] rfl rfl ?n1 ?n2 ?n3 ?n4 ?n5 ?_)
          case n1 =>
            intro j u hj
            rw [Addr.add_lit]
            have hj0 : j = 0 := by
              rcases Nat.eq_zero_or_pos j with h | h
              · exact h
              · rw [List.getElem?_eq_none (by simp; omega)] at hj
                cases hj
            subst hj0
            simp at hj
            subst hj
            go_simp
          case n2 =>
            intro u hu
            simp at hu
            subst hu
            rfl
          case n3 => unfold maxLen; omega
          case n4 => omega
          case n5 => simp; omega
          intro v' w3 hown3 hgrow3 _
          have hb3 : Below w.heap.size w w3 := (hbr.alloc hbz _).grown hgrow3 (by simp; omega) fun k hk => (hown2.lt k hk).1
          go_wp2
          go_roundw
          case rel =>
            refine ⟨m + 1, _, by omega, ?_, rfl, ?_, hb3⟩
            · rw [Hq3.out]; push_cast; rfl
            · rw [Hss.out, Lib.byteCells_append]; exact hown3
          case measure => simp [intOf]; omega
    · obtain rfl : m = N := by omega
      have hge : ¬ ((6 * m : Nat) : Int) < 8 * (s.size : Int) := by omega
      have hown1 : wr.ownsRow w.heap.size 5 1 u3 m (Lib.byteCells (sixes s.data.toList m ++ List.replicate (m - m) 61)) := by rw [Nat.sub_self]; simpa using hown
      clear hown
      go_wp2
      go_loopw [3] (fun o wr => ∃ (j : Nat) (v : Value), m ≤ j ∧ j ≤ m + (4 - m % 4) % 4 ∧ o = v ∧ wr.ownsRow w.heap.size 5 1 v j (Lib.byteCells (sixes s.data.toList m ++ List.replicate (j - m) 61)) ∧ Below w.heap.size w wr) (fun o wr => m + 4 - (match o with | .slice _ n _ => n | _ => 0))
      case atStart => exact ⟨m, _, Nat.le_refl _, by omega, rfl, hown1, hbr⟩
      case round =>
        obtain ⟨j, v, hj1, hj2, hv, hown, hbr⟩ := hrel
        subst hv
        obtain ⟨ao, cap, rfl⟩ : ∃ ao cap, u3 = .slice ao j cap := by
          rcases hown.2 with ⟨hv, h0⟩ | ⟨g, cap, cur, hv, _⟩
          · subst h0
            exact ⟨_, _, hv⟩
          · exact ⟨_, _, hv⟩
        have hbz2 := hbr.size
        by_cases hz : j % 4 = 0
        · have hj : j = m + (4 - m % 4) % 4 := by omega
          have hcv := conv_own hown
          have Hfin : Hid ((⟨(sixes s.data.toList m ++ List.replicate (j - m) 61).toArray⟩ : ByteArray) = ⟨(encB s.data.toList).toArray⟩) := Lib.hid (by
            rw [Henc.out, hj, Nat.add_sub_cancel_left])
          clear hj
          go_wp2
          go_ret
          exact ⟨by rw [← Hfin.out]; rfl, hbr⟩
        · have hlt2 : j < m + (4 - m % 4) % 4 := by omega
          have hrep : List.replicate (j + 1 - m) (61 : UInt8) = List.replicate (j - m) 61 ++ [61] := by
            rw [show j + 1 - m = (j - m) + 1 by omega, List.replicate_succ']
          have Hrep := Lib.hid hrep
          clear hrep
          have hown2 := hown.alloc (.cells #[.int .u8 61] 5)
          go_wp2_with (at_builtin; refine wpList_append_own _ rfl _ _ 67 rfl w.heap.size 5 i0 (.int .u8 0) 1 1 Tryz.underlying67 hi hz0 hz1 hz2 rfl (by decide) _ j _ rfl hown2 ⟨wr.heap.size, 0, none⟩ 1 1 [.int .u8 61] rfl rfl ?o1 ?o2 ?o3 ?o4 ?o5 ?_)
          case o1 =>
            intro a u hj
            rw [Addr.add_lit]
            have hj0 : a = 0 := by
              rcases Nat.eq_zero_or_pos a with h | h
              · exact h
              · rw [List.getElem?_eq_none (by simp; omega)] at hj
                cases hj
            subst hj0
            simp at hj
            subst hj
            go_simp
          case o2 =>
            intro u hu
            simp at hu
            subst hu
            rfl
          case o3 => unfold maxLen; omega
          case o4 => omega
          case o5 => simp; omega
          intro v' w3 hown3 hgrow3 _
          have hb3 : Below w.heap.size w w3 := (hbr.alloc hbr.size _).grown hgrow3 (by simp; omega) fun k hk => (hown2.lt k hk).1
          obtain ⟨ao3, cap3, rfl⟩ : ∃ ao cap, v' = .slice ao (j + 1) cap := by
            rcases hown3.2 with ⟨hv, h0⟩ | ⟨g, cap, cur, hv, _⟩
            · omega
            · exact ⟨_, _, hv⟩
          go_wp2
          go_roundw
          case rel =>
            refine ⟨j + 1, _, by omega, by omega, rfl, ?_, hb3⟩
            rw [Hrep.out, ← List.append_assoc, Lib.byteCells_append]
            exact hown3
          case measure => simp; omega
end Go.Proofs.YtidlpdiephlkhaaGreatDoor
namespace Go.Proofs.YtidlpdiephlkhaaGreatDoor
open Go.RowKit

/-- The last number below k whose letter a byte is, or -1. -/
def upTo (c : UInt8) (k : Nat) : Int := match worthB c with
  | some v => if v < k then v else -1
  | none => -1
theorem upTo_zero (c : UInt8) : upTo c 0 = -1 := by
  unfold upTo
  cases worthB c <;> simp
theorem upTo_yes {c : UInt8} {k : Nat} (hk : k < 64) (h : letterB k = c) : upTo c (k + 1) = k := by
  unfold upTo
  rw [← h, worth_letter k hk]
  simp
theorem upTo_no {c : UInt8} {k : Nat} (h : letterB k ≠ c) : upTo c (k + 1) = upTo c k := by
  unfold upTo
  cases hw : worthB c with
  | none => rfl
  | some v =>
    obtain ⟨_, h2⟩ := letter_worth hw
    have hne : v ≠ k := fun e => h (by rw [← e]; exact h2)
    simp only
    by_cases h1 : v < k
    · rw [if_pos h1, if_pos (by omega)]
    · rw [if_neg h1, if_neg (by omega)]
theorem upTo_some {c : UInt8} {v : Nat} (h : worthB c = some v) : upTo c 64 = v ∧ v < 64 := by
  have hv := (letter_worth h).1
  unfold upTo
  rw [h]
  simp only
  exact ⟨if_pos hv, hv⟩
theorem upTo_none {c : UInt8} (h : worthB c = none) : upTo c 64 = -1 := by
  unfold upTo
  rw [h]
theorem letter_beq (c : UInt8) (k : Nat) : (((letterB k).toNat : Int) == (c.toNat : Int)) = decide (letterB k = c) := by
  rw [Bool.eq_iff_iff, beq_iff_eq, decide_eq_true_eq]
  constructor
  · intro e
    exact UInt8.toNat_inj.1 (by omega)
  · rintro rfl
    rfl
/-- A row of the call's own, behind a callee that turns no older block. -/
theorem ownsRow_below {w w' : World} {B e size n : Nat} {v : Value} {xs : List Value} (h : w.ownsRow B e size v n xs) (hb : Below w.heap.size w w') : w'.ownsRow B e size v n xs :=
  ⟨h.1, h.2.imp id fun ⟨g, cap, cur, h1, h2, h3, h4⟩ => ⟨g, cap, cur, h1, h2, (hb.block g (by
    rcases Nat.lt_or_ge g w.heap.size with h | h
    · exact h
    · rw [Array.getElem?_eq_none h] at h3; cases h3)).trans h3, h4⟩⟩
theorem pow_small (n : Nat) (hn : n < 8) : ∃ p : Nat, 2 ^ (n - 2) = p ∧ 0 < p ∧ wrap64 (2 ^ (n - 2)) = (p : Int) := by
  have h : 2 ^ (n - 2) ≤ 2 ^ 6 := Nat.pow_le_pow_right (by omega) (by omega)
  have e : (2 : Int) ^ (n - 2) = ((2 ^ (n - 2) : Nat) : Int) := by push_cast; rfl
  have h0 : 0 < 2 ^ (n - 2) := Nat.two_pow_pos _
  refine ⟨_, rfl, h0, ?_⟩
  rw [e]
  generalize 2 ^ (n - 2) = q at h h0 ⊢
  exact IntWalk.wrap64_in _ (by omega)
theorem bytes_ne3 {a b : ByteArray} (h : a ≠ b) : (a.toList == b.toList) = false := by
  have e : ∀ t : ByteArray, t.toList = t.data.toList := fun t => by
    cases t with
    | mk d => cases d with
      | mk l => simp
  simp only [e, beq_eq_false_iff_ne, ne_eq]
  exact fun e => h (ByteArray.ext (Array.ext' e))
/-- What decoding hands back. -/
def decV (r : Option (List UInt8)) : Value := match r with
  | some l => .tuple #[.string ⟨l.toArray⟩, .int .i64 0]
  | none => .tuple #[.string ⟨#[]⟩, .int .i64 2]

set_option maxRecDepth 100000 in
set_option maxHeartbeats 800000 in
theorem r3dec_any (s : ByteArray) (w : World) (hs : s.size < 400000000) :
    Calls Tryz.prog 95 #[.string s] w fun e w' => e = .returned (decV (decB s.data.toList)) ∧ Below w.heap.size w w' := by
  obtain ⟨i0, hi, hz0, hz1, hz2⟩ := info_parts infoB3
  rw [← ref_dec]
  have hown0 : w.ownsRow w.heap.size 5 1 (.slice none 0 0) ([] : List UInt8).length (Lib.byteCells []) := World.ownsRow_nil _ _ _ _
  go_enter Tryz.func95, Tryz.ntmps95
  go_wp2
  go_loopw [4, 5, 6, 7, 8, 9] (fun o vv nn iv _ _ wr => ∃ (i v n : Nat) (out : List UInt8) (vo : Value), i ≤ s.size ∧ iv = .int .i64 i ∧ vv = .int .i64 v ∧ nn = .int .i64 n ∧ o = vo ∧ n < 8 ∧ v < 2 ^ n ∧ out.length ≤ i ∧ wr.ownsRow w.heap.size 5 1 vo out.length (Lib.byteCells out) ∧ Below w.heap.size w wr ∧ takeS 0 0 [] s.data.toList = takeS v n out (s.data.toList.drop i)) (fun _ _ _ iv _ _ _ => s.size - (intOf iv).toNat)
  case atStart => exact ⟨0, 0, 0, [], _, Nat.zero_le _, rfl, rfl, rfl, rfl, by omega, by omega, Nat.le_refl _, hown0, Below.refl _ _, rfl⟩
  case round =>
    obtain ⟨i, v, n, out, vo, hi1, rfl, rfl, rfl, hvo, hn, hv, hol, hown, hbr, hst⟩ := hrel
    subst hvo
    have Hst := Lib.hid hst
    have hbz := hbr.size
    have hv128 : v < 128 := Nat.lt_of_lt_of_le hv (show 2 ^ n ≤ 2 ^ 7 from Nat.pow_le_pow_right (by omega) (by omega))
    clear hst
    by_cases hlt : i < s.size
    · have hdr : s.data.toList.drop i = s[i] :: s.data.toList.drop (i + 1) := by
        rw [List.drop_eq_getElem_cons (by have : s.data.toList.length = s.size := rfl; omega)]
        rfl
      have hrl : (s.data.toList.drop (i + 1)).length = s.size - (i + 1) := by rw [List.length_drop]; rfl
      obtain ⟨c, hc⟩ : ∃ c, s[i] = c := ⟨_, rfl⟩
      rw [hc] at hdr
      have Hdr := Lib.hid hdr
      have Hrl := Lib.hid hrl
      have hlb := fun k => letter_beq c k
      rw [← hc] at hlb
      have Hlb := Lib.hid hlb
      have Hc := Lib.hid hc
      clear hdr hrl hc hlb
      go_wp2
      go_loopw [8, 9] (fun wv kv wi => ∃ (k q : Nat), k ≤ 64 ∧ kv = .int .i64 k ∧ wv = .int .i64 (upTo c k) ∧ wi = wr.drewN q) (fun _ kv _ => 64 - (intOf kv).toNat)
      case atStart => exact ⟨0, 0, by omega, rfl, by rw [upTo_zero], rfl⟩
      case round =>
        obtain ⟨k, q, hk, rfl, rfl, hwi⟩ := hrel
        have Hwi := Lib.hid hwi
        clear hwi
        by_cases hk6 : k < 64
        · have hcall := fun w => r3letter_any k w hk6
          cases hz : decide (letterB k = s[i])
          · have hbq := (Hlb.out k).trans hz
            have Hup : Hid (upTo c (k + 1) = upTo c k) := Lib.hid (upTo_no (by rw [← Hc.out]; exact of_decide_eq_false hz))
            clear hz
            go_wp2
            go_quiet (first | (go_at_call 126; exact Calls.quiet_of_same (hcall _)))
            clear hbq
            go_wp2
            go_round
            case rel => exact ⟨k + 1, q + nq, by omega, by go_num, by rw [Hup.out], by rw [Hwi.out, World.drewN_drewN]⟩
            case measure => simp [intOf]; omega
          · have hbq := (Hlb.out k).trans hz
            have Hup : Hid (upTo c (k + 1) = k) := Lib.hid (upTo_yes hk6 (by rw [← Hc.out]; exact of_decide_eq_true hz))
            clear hz
            go_wp2
            go_quiet (first | (go_at_call 126; exact Calls.quiet_of_same (hcall _)))
            clear hbq
            go_wp2
            go_round
            case rel => exact ⟨k + 1, q + nq, by omega, by go_num, by rw [Hup.out], by rw [Hwi.out, World.drewN_drewN]⟩
            case measure => simp [intOf]; omega
        · obtain rfl : k = 64 := by omega
          have hown2 : wr.ownsRow w.heap.size 5 1 u4 out.length (Lib.byteCells out) := by rw [Hwi.out]; exact hown
          have hb2 : Below w.heap.size w wr := by rw [Hwi.out]; exact below_drewN hbr q
          clear hown hbr
          cases hw : worthB c with
          | none =>
            have hup : upTo c 64 = -1 := upTo_none hw
            rw [hup]
            clear hup
            by_cases hp : c = 61 ∧ i + 2 ≥ s.size
            · have he : (((s[i]'hlt).toNat : Int) == 61) = true := by rw [Hc.out, hp.1]; rfl
              have hd : decide ((s.size : Int) - 2 ≤ (i : Int)) = true := decide_eq_true (by omega)
              have Hn : Hid (takeS 0 0 [] s.data.toList = takeS v n out (s.data.toList.drop (i + 1))) := Lib.hid (by
                rw [Hst.out, Hdr.out, takeS, hw]
                simp only
                rw [if_pos ⟨hp.1, by rw [Hrl.out]; omega⟩])
              clear hp hw
              go_wp2
              go_roundw
              case rel => exact ⟨i + 1, v, n, out, _, by omega, by go_num, rfl, rfl, rfl, hn, hv, by omega, hown2, hb2, Hn.out⟩
              case measure => simp [intOf]; omega
            · have Hf : Hid (refDecB s.data.toList = none) := Lib.hid (by
                unfold refDecB
                rw [Hst.out, Hdr.out, takeS, hw]
                simp only
                rw [if_neg fun h => hp ⟨h.1, by have := h.2; rw [Hrl.out] at this; omega⟩])
              by_cases hp1 : c = 61
              · have he : (((s[i]'hlt).toNat : Int) == 61) = true := by rw [Hc.out, hp1]; rfl
                have hd : decide ((s.size : Int) - 2 ≤ (i : Int)) = false := decide_eq_false (by have : ¬ i + 2 ≥ s.size := fun h => hp ⟨hp1, h⟩; omega)
                clear hp hw hp1
                go_wp2
                go_ret2
                exact ⟨by rw [Hf.out]; rfl, hb2⟩
              · have he : (((s[i]'hlt).toNat : Int) == 61) = false := by
                  rw [Hc.out, beq_eq_false_iff_ne]
                  intro e
                  exact hp1 (UInt8.toNat_inj.1 (by have : (61 : UInt8).toNat = 61 := rfl; omega))
                clear hp hw hp1
                go_wp2
                go_ret2
                exact ⟨by rw [Hf.out]; rfl, hb2⟩
          | some x =>
            obtain ⟨hup, hx⟩ := upTo_some hw
            rw [hup]
            clear hup
            have hcx : c.toNat < 256 := c.toNat_lt
            by_cases h8 : 8 ≤ n + 6
            · have Hn : Hid (takeS 0 0 [] s.data.toList = takeS ((v * 64 + x) % 2 ^ (n + 6 - 8)) (n + 6 - 8) (out ++ [UInt8.ofNat ((v * 64 + x) / 2 ^ (n + 6 - 8))]) (s.data.toList.drop (i + 1))) := Lib.hid (by
                rw [Hst.out, Hdr.out, takeS, hw]
                simp only
                rw [if_pos h8])
              have hy : ((v : Int) * 64 + x) / 2 ^ (n - 2) % 256 = ((UInt8.ofNat ((v * 64 + x) / 2 ^ (n + 6 - 8))).toNat : Int) := by
                rw [UInt8.toNat_ofNat', show n + 6 - 8 = n - 2 by omega]
                push_cast
                rfl
              have Hy := Lib.hid hy
              clear hw hy
              have hown2 := hown2.alloc (.cells #[.int .u8 (((v : Int) * 64 + x) / 2 ^ (n - 2) % 256)] 5)
              have hbz2 := hb2.size
              go_wp2_with (at_builtin; refine wpList_append_own _ rfl _ _ 67 rfl w.heap.size 5 i0 (.int .u8 0) 1 1 Tryz.underlying67 hi hz0 hz1 hz2 rfl (by decide) _ out.length _ rfl hown2 ⟨wr.heap.size, 0, none⟩ 1 1 [.int .u8 (((v : Int) * 64 + x) / 2 ^ (n - 2) % 256)] rfl rfl ?n1 ?n2 ?n3 ?n4 ?n5 ?_)
              case n1 =>
                intro j u hj
                rw [Addr.add_lit]
                have hj0 : j = 0 := by
                  rcases Nat.eq_zero_or_pos j with h | h
                  · exact h
                  · rw [List.getElem?_eq_none (by simp; omega)] at hj
                    cases hj
                subst hj0
                simp at hj
                subst hj
                go_simp
              case n2 =>
                intro u hu
                simp at hu
                subst hu
                rfl
              case n3 => unfold maxLen; omega
              case n4 => omega
              case n5 => simp; omega
              intro v' w3 hown3 hgrow3 _
              have hb3 : Below w.heap.size w w3 := (hb2.alloc hbz2 _).grown hgrow3 (by simp; omega) fun k hk => (hown2.lt k hk).1
              go_wp2
              case isTrue =>
                exfalso
                obtain ⟨p, hpe, hp1, hwp⟩ := pow_small n hn
                rename_i h0
                rw [hwp] at h0
                clear hwp hpe
                omega
              go_roundw
              case rel =>
                obtain ⟨p, hpe, hp1, hwp⟩ := pow_small n hn
                refine ⟨i + 1, (v * 64 + x) % p, n - 2, out ++ [UInt8.ofNat ((v * 64 + x) / 2 ^ (n + 6 - 8))], _, by omega, by go_num, ?_, ?_, rfl, by omega, by rw [hpe]; exact Nat.mod_lt _ hp1, by simp; omega, ?_, hb3, ?_⟩
                · rw [hwp]; push_cast; rfl
                · congr 1; omega
                · rw [Lib.byteCells_append, List.length_append]
                  have hb1 : Lib.byteCells [UInt8.ofNat ((v * 64 + x) / 2 ^ (n + 6 - 8))] = [.int .u8 (((v : Int) * 64 + x) / 2 ^ (n - 2) % 256)] := by rw [Hy.out]; rfl
                  rw [hb1]
                  exact hown3
                · rw [Hn.out, show n + 6 - 8 = n - 2 by omega, hpe]
              case measure => simp [intOf]; omega
            · have Hn : Hid (takeS 0 0 [] s.data.toList = takeS (v * 64 + x) (n + 6) out (s.data.toList.drop (i + 1))) := Lib.hid (by
                rw [Hst.out, Hdr.out, takeS, hw]
                simp only
                rw [if_neg h8])
              have hv2 : v * 64 + x < 2 ^ (n + 6) := by rw [Nat.pow_add]; omega
              have Hv2 := Lib.hid hv2
              clear hw hv2
              go_wp2
              go_roundw
              case rel => exact ⟨i + 1, v * 64 + x, n + 6, out, _, by omega, by go_num, by push_cast; rfl, by push_cast; rfl, rfl, by omega, Hv2.out, by omega, hown2, hb2, Hn.out⟩
              case measure => simp [intOf]; omega
    · obtain rfl : i = s.size := by omega
      have hdr : s.data.toList.drop s.size = [] := List.drop_eq_nil_of_le (Nat.le_of_eq rfl)
      have htk : takeS 0 0 [] s.data.toList = some out := by rw [Hst.out, hdr]; rfl
      have hcv := conv_own hown
      have hcall := r3enc_any ⟨out.toArray⟩ wr (by have : (⟨out.toArray⟩ : ByteArray).size = out.length := rfl; omega)
      have Hhtk := Lib.hid htk
      clear hdr htk
      by_cases hes : encB out = s.data.toList
      · have Hf : Hid (refDecB s.data.toList = some out) := Lib.hid (by
          unfold refDecB
          rw [Hhtk.out]
          simp only
          rw [if_pos hes])
        have hse : (⟨(encB out).toArray⟩ : ByteArray) = s := by rw [hes]
        rw [hse] at hcall
        clear hes
        have Hse := Lib.hid hse
        clear hse
        go_wp2_with fail
        refine hcall.mono ?_
        rintro e w' ⟨rfl, hw'⟩
        have hb3 := hbr.trans (hw'.mono hbz)
        have hcv2 : (convert 67 9 u4).run Tryz.prog w' = .ok (.string ⟨out.toArray⟩) w' := conv_own (ownsRow_below hown hw')
        clear hcall
        go_wp2
        go_ret2
        exact ⟨by rw [Hf.out]; rfl, hb3⟩
      · have Hf : Hid (refDecB s.data.toList = none) := Lib.hid (by
          unfold refDecB
          rw [Hhtk.out]
          simp only
          rw [if_neg hes])
        have hse : (⟨(encB out).toArray⟩ : ByteArray) ≠ s := fun h => hes (by rw [← h])
        generalize (⟨(encB out).toArray⟩ : ByteArray) = y at hse hcall
        have hyb : (y.toList == s.toList) = false := bytes_ne3 hse
        clear hes
        go_wp2_with fail
        refine hcall.mono ?_
        rintro e w' ⟨rfl, hw'⟩
        have hb3 := hbr.trans (hw'.mono hbz)
        clear hcall
        go_wp2
        go_ret2
        exact ⟨by rw [Hf.out]; rfl, hb3⟩
end Go.Proofs.YtidlpdiephlkhaaGreatDoor
