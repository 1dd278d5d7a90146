/-
  LatticeBounds returns true, for any labels: the join of two is the least label that dominates both, their meet the greatest that both dominate; whoever dominates is the join.
-/
import Derived.Test.YtmkkdkgmiplnfaaDoorBounds
import Derived.Test.YtmkkdkgmiplnfaaDoorLawsB
namespace Go.Proofs.YtmkkdkgmiplnfaaDoor
open Go.RowKit

theorem bounds_any (la ca lb cb lc cc m : Int) (w : World) (hm : w.cell? ⟨0, 0, none⟩ = some (.int .i64 m)) (a0 : 0 ≤ ca) (a1 : ca < 18446744073709551616) (b0 : 0 ≤ cb) (b1 : cb < 18446744073709551616) (c0 : 0 ≤ cc) (c1 : cc < 18446744073709551616) :
    Calls Tryd.prog 5 #[.agg #[.int .i64 la, .int .u64 ca], .agg #[.int .i64 lb, .int .u64 cb], .agg #[.int .i64 lc, .int .u64 cc]] w fun e w' => e = .returned (.bool true) ∧ Below w.heap.size w w' := by
  obtain ⟨a, rfl⟩ := Int.eq_ofNat_of_zero_le a0
  obtain ⟨b, rfl⟩ := Int.eq_ofNat_of_zero_le b0
  obtain ⟨c, rfl⟩ := Int.eq_ofNat_of_zero_le c0
  have ha : a < 18446744073709551616 := by omega
  have hb : b < 18446744073709551616 := by omega
  have or_lt : a ||| b < 18446744073709551616 := Nat.or_lt_two_pow (n := 64) ha hb
  have and_lt : a &&& b < 18446744073709551616 := Nat.lt_of_le_of_lt Nat.and_le_left ha
  have j0 : (0 : Int) ≤ ((a ||| b : Nat) : Int) := by omega
  have j1 : ((a ||| b : Nat) : Int) < 18446744073709551616 := by omega
  have m0 : (0 : Int) ≤ ((a &&& b : Nat) : Int) := by omega
  have m1 : ((a &&& b : Nat) : Int) < 18446744073709551616 := by omega
  have max1 : la ≤ maxI la lb ∧ lb ≤ maxI la lb ∧ (maxI la lb = la ∨ maxI la lb = lb) := by unfold maxI; split <;> omega
  have min1 : minI la lb ≤ la ∧ minI la lb ≤ lb ∧ (minI la lb = la ∨ minI la lb = lb) := by unfold minI; split <;> omega
  refine bounds_walk la a lb b lc c m w hm (maxI la lb) (a ||| b : Nat) (minI la lb) (a &&& b : Nat) ⟨rfl, u64_or_nat a b ha hb⟩ ⟨rfl, u64_and_nat a b ha hb⟩ ?_ ?_ ?_ ?_ ?_ ?_ ?_ ?_
  · refine (dom_iff j0 j1 a0 a1).2 ⟨max1.1, fun i hi => ?_⟩
    simp only [Int.toNat_natCast] at hi ⊢
    rw [Nat.testBit_or, hi]; rfl
  · refine (dom_iff j0 j1 b0 b1).2 ⟨max1.2.1, fun i hi => ?_⟩
    simp only [Int.toNat_natCast] at hi ⊢
    rw [Nat.testBit_or, hi, Bool.or_true]
  · refine (dom_iff a0 a1 m0 m1).2 ⟨min1.1, fun i hi => ?_⟩
    simp only [Int.toNat_natCast, Nat.testBit_and, Bool.and_eq_true] at hi ⊢
    exact hi.1
  · refine (dom_iff b0 b1 m0 m1).2 ⟨min1.2.1, fun i hi => ?_⟩
    simp only [Int.toNat_natCast, Nat.testBit_and, Bool.and_eq_true] at hi ⊢
    exact hi.2
  · intro h1 h2
    obtain ⟨x1, y1⟩ := (dom_iff c0 c1 a0 a1).1 h1
    obtain ⟨x2, y2⟩ := (dom_iff c0 c1 b0 b1).1 h2
    refine (dom_iff c0 c1 j0 j1).2 ⟨by omega, fun i hi => ?_⟩
    simp only [Int.toNat_natCast, Nat.testBit_or, Bool.or_eq_true] at hi y1 y2 ⊢
    exact hi.elim (y1 i) (y2 i)
  · intro h1 h2
    obtain ⟨x1, y1⟩ := (dom_iff a0 a1 c0 c1).1 h1
    obtain ⟨x2, y2⟩ := (dom_iff b0 b1 c0 c1).1 h2
    refine (dom_iff m0 m1 c0 c1).2 ⟨by omega, fun i hi => ?_⟩
    simp only [Int.toNat_natCast, Nat.testBit_and, Bool.and_eq_true] at hi y1 y2 ⊢
    exact ⟨y1 i hi, y2 i hi⟩
  · rw [dom_iff a0 a1 b0 b1]
    constructor
    · rintro ⟨x, y⟩
      refine ⟨by unfold maxI; split <;> omega, ?_⟩
      have : a ||| b = a := Nat.eq_of_testBit_eq fun i => by
        have := y i
        simp only [Int.toNat_natCast, Nat.testBit_or] at this ⊢
        cases h1 : a.testBit i <;> cases h2 : b.testBit i <;> simp_all
      rw [this]
    · rintro ⟨x, y⟩
      have e : a ||| b = a := by omega
      refine ⟨by omega, fun i hi => ?_⟩
      simp only [Int.toNat_natCast] at hi ⊢
      rw [← e, Nat.testBit_or, hi, Bool.or_true]
  · rw [dom_iff a0 a1 b0 b1]
    constructor
    · rintro ⟨x, y⟩
      refine ⟨by unfold minI; split <;> omega, ?_⟩
      have : a &&& b = b := Nat.eq_of_testBit_eq fun i => by
        have := y i
        simp only [Int.toNat_natCast, Nat.testBit_and] at this ⊢
        cases h1 : a.testBit i <;> cases h2 : b.testBit i <;> simp_all
      rw [this]
    · rintro ⟨x, y⟩
      have e : a &&& b = b := by omega
      refine ⟨by omega, fun i hi => ?_⟩
      simp only [Int.toNat_natCast] at hi ⊢
      rw [← e, Nat.testBit_and, Bool.and_eq_true] at hi
      exact hi.1
end Go.Proofs.YtmkkdkgmiplnfaaDoor
