/-
  LatticeLaws returns true, for any labels: joins and meets go in any order, take one another in, and a label with itself is itself.
-/
import Derived.Test.YtmkkdkgmiplnfaaDoorLaws
namespace Go.Proofs.YtmkkdkgmiplnfaaDoor
open Go.RowKit

theorem max_comm_ (a b : Int) : maxI a b = maxI b a := by unfold maxI; split <;> split <;> omega
theorem min_comm_ (a b : Int) : minI a b = minI b a := by unfold minI; split <;> split <;> omega
theorem max_assoc_ (a b c : Int) : maxI (maxI a b) c = maxI a (maxI b c) := by unfold maxI; (repeat' split) <;> omega
theorem min_assoc_ (a b c : Int) : minI (minI a b) c = minI a (minI b c) := by unfold minI; (repeat' split) <;> omega
theorem max_min_ (a b : Int) : maxI a (minI a b) = a := by unfold maxI minI; split <;> split <;> omega
theorem min_max_ (a b : Int) : minI a (maxI a b) = a := by unfold maxI minI; split <;> split <;> omega
theorem max_self_ (a : Int) : maxI a a = a := by unfold maxI; split <;> omega
theorem min_self_ (a : Int) : minI a a = a := by unfold minI; split <;> omega
theorem or_and_ (a b : Nat) : a ||| (a &&& b) = a := Nat.eq_of_testBit_eq fun i => by simp only [Nat.testBit_or, Nat.testBit_and]; cases a.testBit i <;> simp
theorem and_or_ (a b : Nat) : a &&& (a ||| b) = a := Nat.eq_of_testBit_eq fun i => by simp only [Nat.testBit_or, Nat.testBit_and]; cases a.testBit i <;> simp

theorem laws_any (la ca lb cb lc cc m : Int) (w : World) (hm : w.cell? ⟨0, 0, none⟩ = some (.int .i64 m)) (a0 : 0 ≤ ca) (a1 : ca < 18446744073709551616) (b0 : 0 ≤ cb) (b1 : cb < 18446744073709551616) (c0 : 0 ≤ cc) (c1 : cc < 18446744073709551616) :
    Calls Tryd.prog 6 #[.agg #[.int .i64 la, .int .u64 ca], .agg #[.int .i64 lb, .int .u64 cb], .agg #[.int .i64 lc, .int .u64 cc]] w fun e w' => e = .returned (.bool true) ∧ Below w.heap.size w w' := by
  obtain ⟨a, rfl⟩ := Int.eq_ofNat_of_zero_le a0
  obtain ⟨b, rfl⟩ := Int.eq_ofNat_of_zero_le b0
  obtain ⟨c, rfl⟩ := Int.eq_ofNat_of_zero_le c0
  have ha : a < 18446744073709551616 := by omega
  have hb : b < 18446744073709551616 := by omega
  have hc : c < 18446744073709551616 := by omega
  have or_lt : ∀ {x y : Nat}, x < 18446744073709551616 → y < 18446744073709551616 → x ||| y < 18446744073709551616 := fun hx hy => Nat.or_lt_two_pow (n := 64) hx hy
  have and_lt : ∀ {x : Nat} (y : Nat), x < 18446744073709551616 → x &&& y < 18446744073709551616 := fun y hx => Nat.lt_of_le_of_lt Nat.and_le_left hx
  exact laws_walk la a lb b lc c m w hm (maxI la lb) (a ||| b : Nat) (minI la lb) (a &&& b : Nat) (maxI lb lc) (b ||| c : Nat) (minI lb lc) (b &&& c : Nat) (maxI la (maxI lb lc)) (a ||| (b ||| c) : Nat) (minI la (minI lb lc)) (a &&& (b &&& c) : Nat)
    ⟨rfl, u64_or_nat a b ha hb⟩ ⟨max_comm_ _ _, by rw [u64_or_nat b a hb ha, Nat.or_comm]⟩ ⟨rfl, u64_and_nat a b ha hb⟩ ⟨min_comm_ _ _, by rw [u64_and_nat b a hb ha, Nat.and_comm]⟩
    ⟨rfl, u64_or_nat b c hb hc⟩ ⟨rfl, u64_or_nat a (b ||| c) ha (or_lt hb hc)⟩ ⟨max_assoc_ _ _ _, by rw [u64_or_nat (a ||| b) c (or_lt ha hb) hc, Nat.or_assoc]⟩
    ⟨rfl, u64_and_nat b c hb hc⟩ ⟨rfl, u64_and_nat a (b &&& c) ha (and_lt c hb)⟩ ⟨min_assoc_ _ _ _, by rw [u64_and_nat (a &&& b) c (and_lt b ha) hc, Nat.and_assoc]⟩
    ⟨max_min_ _ _, by rw [u64_or_nat a (a &&& b) ha (and_lt b ha), or_and_]⟩ ⟨min_max_ _ _, by rw [u64_and_nat a (a ||| b) ha (or_lt ha hb), and_or_]⟩
    ⟨max_self_ _, by rw [u64_or_nat a a ha ha, Nat.or_self]⟩ ⟨min_self_ _, by rw [u64_and_nat a a ha ha, Nat.and_self]⟩
end Go.Proofs.YtmkkdkgmiplnfaaDoor
