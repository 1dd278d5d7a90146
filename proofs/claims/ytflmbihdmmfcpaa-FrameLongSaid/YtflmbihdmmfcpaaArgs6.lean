/-
  A byte and a number of sixteen bits that are handed over.
-/
import Derived.Test.YtflmbihdmmfcpaaArgs3
namespace Go.Proofs.Ytflmbihdmmfcpaa
open Go.RowKit

theorem byte_of {i : Int} (h : (Lit.int .u8 i).wf = true) : ∃ c : UInt8, i = (c.toNat : Int) := by
  have h1 : 0 ≤ i ∧ i < 256 := by
    simp only [Lit.wf, Bool.and_eq_true, decide_eq_true_eq] at h
    have e1 : IntKind.u8.min = 0 := by decide
    have e2 : IntKind.u8.max = 255 := by decide
    omega
  refine ⟨UInt8.ofNat i.toNat, ?_⟩
  rw [UInt8.toNat_ofNat_of_lt' (by show i.toNat < 256; omega)]
  omega
theorem u16_of {i : Int} (h : (Lit.int .u16 i).wf = true) : ∃ n : Nat, i = (n : Int) ∧ n < 65536 := by
  have h1 : 0 ≤ i ∧ i < 65536 := by
    simp only [Lit.wf, Bool.and_eq_true, decide_eq_true_eq] at h
    have e1 : IntKind.u16.min = 0 := by decide
    have e2 : IntKind.u16.max = 65535 := by decide
    omega
  exact ⟨i.toNat, by omega, by omega⟩
end Go.Proofs.Ytflmbihdmmfcpaa
