/-
  A turn and a row of small numbers that are handed over.
-/
import Derived.Test.YtnggjoleiapboaaArgs4
import Derived.Carry
import Derived.Deep.Slices
import Derived.Deep.Fields
import Derived.ChangeSame
namespace Go.Proofs.Ytnggjoleiapboaa
set_option maxRecDepth 100000
open Go.ChangeShapes Go.WideShapes Go.ChangeAt Go.RowKit Go.Joins Go.Deep

/-- Small numbers in memory. -/
def Smalls (w : World) (A : Option Addr) (n : Nat) : Prop :=
  n = 0 ∨ ∃ b off, A = some ⟨b, off, none⟩ ∧ b < w.heap.size ∧ ∀ i, i < n → ∃ k : Nat, k < 65536 ∧ w.cell? ⟨b, off + i, none⟩ = some (.int .u16 (k : Int))
theorem Smalls.at {w : World} {A : Option Addr} {n : Nat} (h : Smalls w A n) {i : Nat} (hi : i < n) : ∃ (b off k : Nat), A = some ⟨b, off, none⟩ ∧ k < 65536 ∧ ∀ W, Below w.heap.size w W → W.cell? ⟨b, off + i, none⟩ = some (.int .u16 (k : Int)) := by
  rcases h with h | ⟨b, off, h1, h2, h3⟩
  · omega
  · obtain ⟨k, hk, hc⟩ := h3 i hi
    exact ⟨b, off, k, h1, hk, fun W hW => (hW.cell (p := ⟨b, off + i, none⟩) h2).trans hc⟩
theorem spot_none15 {w : World} {a : Addr} {v : Value} (h : w.cell? a = some v) : a.spot = none := by
  obtain ⟨b, off, sp⟩ := a
  cases sp with
  | none => rfl
  | some x =>
    simp [World.cell?] at h
    split at h <;> simp at h
theorem lt_size15 {w : World} {b off : Nat} {v : Value} (h : w.cell? ⟨b, off, none⟩ = some v) : b < w.heap.size := by
  rcases Nat.lt_or_ge b w.heap.size with h1 | h1
  · exact h1
  · rw [World.cell?, Array.getElem?_eq_none h1] at h
    simp at h
theorem u16_of15 {i : Int} (h : (Lit.int .u16 i).wf = true) : ∃ n : Nat, i = (n : Int) ∧ n < 65536 := by
  simp only [Lit.wf, Bool.and_eq_true, decide_eq_true_eq] at h
  have e1 : IntKind.u16.min = 0 := by decide
  have e2 : IntKind.u16.max = 65535 := by decide
  exact ⟨i.toNat, by omega, by omega⟩
theorem i64_of15 {i : Int} (h : (Lit.int .i64 i).wf = true) : -9223372036854775808 ≤ i ∧ i ≤ 9223372036854775807 := by
  simp only [Lit.wf, Bool.and_eq_true, decide_eq_true_eq] at h
  have e1 : IntKind.i64.min = -9223372036854775808 := by decide
  have e2 : IntKind.i64.max = 9223372036854775807 := by decide
  omega
section
variable {H : Type} {enc : TypeId × Value → H} {W : World} {base : Nat} {v : Value} {d : DataW H} {p : List MemPlace}
theorem open_turn (hv : Value.okWide Try.prog W .any base 23 v) (h : DataW.Trod enc Try.prog W 0 (fun _ => true) true 23 v d p) :
    ∃ b t u : Int, v = .agg #[.int .i64 b, .int .i64 t, .int .i64 u] ∧ d = .agg [.lit (.int .i64 b), .lit (.int .i64 t), .lit (.int .i64 u)] ∧ p = [] := by
  obtain ⟨c0, c1, c2, y0, y1, y2, m, rfl, rfl, rfl, hy0, hy1, hy2⟩ := open_agg3 Try.underlying23 (by kernel_rfl) (by kernel_rfl) hv h
  obtain ⟨b, e0, rfl, w0⟩ := DataW.trod_int Try.underlying3 hy0
  obtain ⟨t, e1, rfl, w1⟩ := DataW.trod_int Try.underlying3 hy1
  obtain ⟨u, e2, rfl, w2⟩ := DataW.trod_int Try.underlying3 hy2
  simp at e0 e1 e2
  subst e0 e1 e2
  exact ⟨b, t, u, rfl, rfl, rfl⟩
theorem open_u16s (hv : Value.okWide Try.prog W .any base 38 v) (h : DataW.Trod enc Try.prog W 0 (fun _ => true) true 38 v d p) :
    ∃ A n c, v = .slice A n c ∧ Smalls W A n ∧ n ≤ c ∧ c ≤ maxLen := by
  obtain ⟨a, l, c, rfl⟩ := okWide_slice Try.underlying38 hv
  obtain ⟨fuel, h⟩ := h
  have h2 : DataW.trod enc Try.prog W 0 (fun _ => true) true fuel 38 [.slice a l c] = some (d, p) := by simpa [Value.cells] using h
  rcases open_slice Try.underlying38 h2 with ⟨hcs, _⟩ | ⟨ad, len, cap, m, n, D, Pl, hcs, _, hl, hm, hmm, hx, hi⟩
  · simp only [List.cons.injEq, and_true] at hcs
    exact ⟨none, 0, 0, hcs, .inl rfl, Nat.le_refl _, by decide⟩
  · simp only [List.cons.injEq, and_true] at hcs
    simp only [if_true] at hmm
    have e3 : Try.prog.cellsOf 39 = 1 := by kernel_rfl
    rw [e3] at hi
    have hall : ∀ i, i < len → ∃ k : Nat, k < 65536 ∧ W.cell? ((ad.add (i * 1)).add 0) = some (.int .u16 (k : Int)) := fun i hlt => by
      obtain ⟨cs', hc, ht⟩ := hi i (by omega)
      obtain ⟨x, rfl, _, hw⟩ := DataW.trod_int Try.underlying39 ht
      obtain ⟨k, rfl, hk⟩ := u16_of15 hw
      obtain ⟨_, _, hat⟩ := World.cells?_some hc
      exact ⟨k, hk, hat 0 (by omega)⟩
    refine ⟨some ad, len, cap, hcs, ?_, hl, hm⟩
    rcases Nat.eq_zero_or_pos len with h0 | h0
    · exact .inl h0
    · obtain ⟨k0, _, hc0⟩ := hall 0 h0
      have hadd : (ad.add (0 * 1)).add 0 = ad := by simp [Addr.add]
      rw [hadd] at hc0
      have hsp := spot_none15 hc0
      obtain ⟨b, off, sp⟩ := ad
      obtain rfl : sp = none := hsp
      refine .inr ⟨b, off, rfl, lt_size15 hc0, fun i hlt => ?_⟩
      obtain ⟨k, hk, hcj⟩ := hall i hlt
      simp only [Addr.add_lit, Nat.add_zero, Nat.mul_one] at hcj
      exact ⟨k, hk, hcj⟩
end
end Go.Proofs.Ytnggjoleiapboaa
