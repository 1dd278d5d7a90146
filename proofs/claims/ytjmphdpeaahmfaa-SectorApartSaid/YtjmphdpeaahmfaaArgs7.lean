/-
  A cut and a byte that are handed over.
-/
import Derived.Test.YtjmphdpeaahmfaaArgs4
namespace Go.Proofs.Ytjmphdpeaahmfaa
set_option maxRecDepth 100000
open Go.ChangeShapes Go.WideShapes Go.ChangeAt Go.RowKit Go.Joins

section
variable {H : Type} {enc : TypeId × Value → H} {W : World} {base : Nat} {v : Value} {d : DataW H} {p : List MemPlace}
theorem open_cut (hv : Value.okWide Try.prog W .any base 31 v) (h : DataW.Trod enc Try.prog W 0 (fun _ => true) true 31 v d p) :
    ∃ l k : Int, v = .agg #[.int .i64 l, .int .i64 k] ∧ d = .agg [.lit (.int .i64 l), .lit (.int .i64 k)] ∧ p = [] ∧ (Lit.int .i64 l).wf = true ∧ (Lit.int .i64 k).wf = true := by
  obtain ⟨c0, c1, y0, y1, m, rfl, rfl, rfl, hy0, hy1⟩ := open_agg2 Try.underlying31 (by kernel_rfl) (by kernel_rfl) hv h
  obtain ⟨l, e0, rfl, w0⟩ := DataW.trod_int Try.underlying3 hy0
  obtain ⟨k, e1, rfl, w1⟩ := DataW.trod_int Try.underlying3 hy1
  simp at e0 e1
  subst e0 e1
  exact ⟨l, k, rfl, rfl, rfl, w0, w1⟩
end
theorem u8_of {i : Int} (h : (Lit.int .u8 i).wf = true) : ∃ n : Nat, i = (n : Int) ∧ n ≤ 255 := by
  have h1 : 0 ≤ i ∧ i < 256 := by
    simp only [Lit.wf, Bool.and_eq_true, decide_eq_true_eq] at h
    have e1 : IntKind.u8.min = 0 := by decide
    have e2 : IntKind.u8.max = 255 := by decide
    omega
  exact ⟨i.toNat, by omega, by omega⟩
end Go.Proofs.Ytjmphdpeaahmfaa
