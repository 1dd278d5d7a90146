/-
  LatticeSteps returns true, for any label and any two small numbers: a higher level, or a compartment more, dominates; it is dominated only where nothing changed.
-/
import Derived.Test.YtmkkdkgmiplnfaaDoorSteps
namespace Go.Proofs.YtmkkdkgmiplnfaaDoor
open Go.RowKit

theorem steps_any (la ca up bit m : Int) (w : World) (hm : w.cell? ⟨0, 0, none⟩ = some (.int .i64 m)) (hu : 0 ≤ up ∧ up < 256) (hbt : 0 ≤ bit ∧ bit < 256) (a0 : 0 ≤ ca) (a1 : ca < 18446744073709551616) :
    Calls Tryd.prog 9 #[.agg #[.int .i64 la, .int .u64 ca], .int .u8 up, .int .u8 bit] w fun e w' => e = .returned (.bool true) ∧ Below w.heap.size w w' := by
  by_cases hf : la > 1099511627776 ∨ la < -1099511627776
  · exact steps_far la ca up bit m w hm hf
  obtain ⟨a, rfl⟩ := Int.eq_ofNat_of_zero_le a0
  have ha : a < 18446744073709551616 := by omega
  obtain ⟨s, hs, hs64⟩ : ∃ s : Nat, (bit % 64).toNat = s ∧ s < 64 := ⟨_, rfl, by omega⟩
  have hp : 2 ^ s < 18446744073709551616 := Nat.pow_lt_pow_right (a := 2) (n := 64) (by omega) hs64
  have hw : IntKind.u64.wrap (2 ^ (bit % 64).toNat) = ((2 ^ s : Nat) : Int) := by
    rw [hs, IntKind.wrap_u64]
    have : ((2 ^ s : Nat) : Int) = (2 : Int) ^ s := by push_cast; rfl
    rw [← this]
    exact Int.emod_eq_of_lt (Int.natCast_nonneg _) (by omega)
  have or_lt : a ||| 2 ^ s < 18446744073709551616 := Nat.or_lt_two_pow (n := 64) ha hp
  have not_lt : a &&& (18446744073709551615 - 2 ^ s) < 18446744073709551616 := Nat.lt_of_le_of_lt Nat.and_le_left ha
  refine steps_near la a up bit m w hm (by omega) (by omega) hu hbt (la + up) (a ||| 2 ^ s : Nat) (a &&& (18446744073709551615 - 2 ^ s) : Nat) rfl (by rw [hw, u64_or_nat a _ ha hp]) (by rw [hw, u64_andNot_nat a _ ha hp]) ?_ ?_ ⟨fun h => ?_, fun h => ?_⟩ ⟨fun h => ?_, fun h => ?_⟩
  · refine (dom_iff (by omega) (by omega) a0 a1).2 ⟨by omega, fun i hi => ?_⟩
    simp only [Int.toNat_natCast] at hi ⊢
    rw [Nat.testBit_or, hi]
    rfl
  · refine (dom_iff a0 a1 (by omega) (by omega)).2 ⟨by omega, fun i hi => ?_⟩
    simp only [Int.toNat_natCast] at hi ⊢
    rw [Nat.testBit_and] at hi
    simp only [Bool.and_eq_true] at hi
    exact hi.1
  · obtain ⟨x, y⟩ := (dom_iff a0 a1 (by omega) (by omega)).1 h
    refine ⟨by omega, ?_⟩
    have : a = a ||| 2 ^ s := Nat.eq_of_testBit_eq fun i => by
      have := y i
      simp only [Int.toNat_natCast, Nat.testBit_or] at this ⊢
      cases h1 : a.testBit i <;> cases h2 : (2 ^ s).testBit i <;> simp_all
    exact_mod_cast this
  · rw [← h.1, ← h.2]
    exact dom_self la a a0 a1
  · obtain ⟨x, y⟩ := (dom_iff (by omega) (by omega) a0 a1).1 h
    have : a = a &&& (18446744073709551615 - 2 ^ s) := Nat.eq_of_testBit_eq fun i => by
      have := y i
      simp only [Int.toNat_natCast, Nat.testBit_and] at this ⊢
      cases h1 : a.testBit i <;> cases h2 : (18446744073709551615 - 2 ^ s).testBit i <;> simp_all
    exact_mod_cast this
  · rw [← h]
    exact dom_self la a a0 a1
end Go.Proofs.YtmkkdkgmiplnfaaDoor
