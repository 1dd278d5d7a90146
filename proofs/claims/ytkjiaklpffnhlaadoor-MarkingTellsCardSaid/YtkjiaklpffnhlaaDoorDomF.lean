/-
  When one label dominates another, in bits: plain facts.
-/
import Derived.Test.YtkjiaklpffnhlaaDoorDom
import Derived.Laws.BitsAllLaws
namespace Go.Proofs.YtkjiaklpffnhlaaDoor
open Go.RowKit

theorem toNat_lt {c : Int} (h1 : c < 18446744073709551616) : c.toNat < 2 ^ 64 := by omega
theorem andNot_zero {a b : Int} (h0 : 0 ≤ a) (h1 : a < 18446744073709551616) (h2 : 0 ≤ b) (h3 : b < 18446744073709551616) : (bits .andNot .u64 a b == 0) = true ↔ ∀ i, a.toNat.testBit i = true → b.toNat.testBit i = true := by
  rw [u64_andNot a b h0 h1 h2 h3, beq_iff_eq]
  have hb := toNat_lt h3
  constructor
  · intro h i hi
    have h' : a.toNat &&& (18446744073709551615 - b.toNat) = 0 := by omega
    have hx : (a.toNat &&& (2 ^ 64 - (b.toNat + 1))).testBit i = false := by
      rw [show 2 ^ 64 - (b.toNat + 1) = 18446744073709551615 - b.toNat by omega, h', Nat.zero_testBit]
    rw [Nat.testBit_and, hi, Nat.testBit_two_pow_sub_succ hb] at hx
    have hi64 : i < 64 := by
      rcases Nat.lt_or_ge i 64 with h | h
      · exact h
      · rw [Nat.testBit_lt_two_pow (Nat.lt_of_lt_of_le (toNat_lt h1) (Nat.pow_le_pow_right (by omega) h))] at hi
        cases hi
    simpa [hi64] using hx
  · intro h
    have : a.toNat &&& (2 ^ 64 - (b.toNat + 1)) = 0 := by
      apply Nat.eq_of_testBit_eq
      intro i
      rw [Nat.testBit_and, Nat.testBit_two_pow_sub_succ hb, Nat.zero_testBit]
      cases ha : a.toNat.testBit i
      · rfl
      · rw [h i ha]; simp
    rw [show 18446744073709551615 - b.toNat = 2 ^ 64 - (b.toNat + 1) by omega, this]
    rfl
/-- A label dominates another where its level is no lower and it has every bit. -/
theorem dom_iff {la ca lb cb : Int} (h0 : 0 ≤ ca) (h1 : ca < 18446744073709551616) (h2 : 0 ≤ cb) (h3 : cb < 18446744073709551616) : domB la ca lb cb = true ↔ lb ≤ la ∧ ∀ i, cb.toNat.testBit i = true → ca.toNat.testBit i = true := by
  unfold domB
  rw [Bool.and_eq_true, decide_eq_true_eq, andNot_zero h2 h3 h0 h1]
theorem dom_self (la ca : Int) (h0 : 0 ≤ ca) (h1 : ca < 18446744073709551616) : domB la ca la ca = true := (dom_iff h0 h1 h0 h1).2 ⟨Int.le_refl _, fun _ h => h⟩
theorem dom_both {la ca lb cb : Int} (h0 : 0 ≤ ca) (h1 : ca < 18446744073709551616) (h2 : 0 ≤ cb) (h3 : cb < 18446744073709551616) (hab : domB la ca lb cb = true) (hba : domB lb cb la ca = true) : la = lb ∧ ca = cb := by
  obtain ⟨x1, y1⟩ := (dom_iff h0 h1 h2 h3).1 hab
  obtain ⟨x2, y2⟩ := (dom_iff h2 h3 h0 h1).1 hba
  have : ca.toNat = cb.toNat := Nat.eq_of_testBit_eq fun i => by
    cases h : ca.toNat.testBit i <;> cases h' : cb.toNat.testBit i
    · rfl
    · rw [y1 i h'] at h; cases h
    · rw [y2 i h] at h'; cases h'
    · rfl
  omega
theorem dom_trans {la ca lb cb lc cc : Int} (h0 : 0 ≤ ca) (h1 : ca < 18446744073709551616) (h2 : 0 ≤ cb) (h3 : cb < 18446744073709551616) (h4 : 0 ≤ cc) (h5 : cc < 18446744073709551616) (hab : domB la ca lb cb = true) (hbc : domB lb cb lc cc = true) : domB la ca lc cc = true := by
  obtain ⟨x1, y1⟩ := (dom_iff h0 h1 h2 h3).1 hab
  obtain ⟨x2, y2⟩ := (dom_iff h2 h3 h4 h5).1 hbc
  exact (dom_iff h0 h1 h4 h5).2 ⟨by omega, fun i h => y1 i (y2 i h)⟩
end Go.Proofs.YtkjiaklpffnhlaaDoor
