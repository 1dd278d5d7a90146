/-
  What a call of a statement of layer 1 is handed, and what its answer 'true' comes to: labels and lists of strings opened; the memory of a first call.
-/
import Derived.Test.YtkjiaklpffnhlaaDoorCards
import Derived.Test.YtkjiaklpffnhlaaDoorTie
import Derived.Test.YtkjiaklpffnhlaaDoorStrs
import Derived.WalkKit
import Derived.ProofKit
import Derived.OpenShut
import Derived.Below
import Derived.Deep.DeepHandedRow
import Derived.Lib.LaidTab
import Derived.Lib.SmallJoins
namespace Go.Proofs.YtkjiaklpffnhlaaDoor
set_option maxRecDepth 100000
open Go.ChangeShapes Go.WideShapes Go.ChangeAt Go.RowKit Go.Joins

theorem own : ownKnob Tryd.prog.godebug = none := by kernel_rfl

/-- The length bound of the string search is some int. -/
theorem bound_cell {W : World} (h : W.ShapedOpen Tryd.prog) : ∃ m : Int, W.cell? ⟨0, 0, none⟩ = some (.int .i64 m) := by
  obtain ⟨cs, hh, hs, hr⟩ := h.1 0 #[.int .i64 0] 3 (of_decide_eq_true (by kernel_rfl)) (by kernel_rfl)
  obtain ⟨ts, hts, _, hall⟩ := hr (by kernel_rfl)
  have e : Tryd.prog.cellTypes Tryd.prog.depth 3 = some [3] := by kernel_rfl
  rw [e] at hts
  cases hts
  have h1 : 0 < cs.size := by rw [hs]; decide
  obtain ⟨u, hu, hok⟩ := hall 0 cs[0] (by simp [h1])
  have : u = 3 := by simpa using hu.symm
  subst this
  have hcell : W.cell? ⟨0, 0, none⟩ = some cs[0] := by simp [World.cell?, hh, h1]
  rw [hcell]
  unfold Cell.ok at hok
  rw [Tryd.underlying3] at hok
  cases hv : cs[0] <;> rw [hv] at hok <;> simp at hok
  obtain ⟨rfl, _⟩ := hok
  exact ⟨_, rfl⟩

section
variable {H : Type} {enc : TypeId × Value → H} {W : World} {base : Nat} {v : Value} {d : DataW H} {p : List MemPlace}
/-- A label that is handed over: its two numbers, in their ranges. -/
theorem open_label (hv : Value.okWide Tryd.prog W .any base 27 v) (h : DataW.Trod enc Tryd.prog W 0 (fun _ => true) true 27 v d p) :
    ∃ l k : Int, v = .agg #[.int .i64 l, .int .u64 k] ∧ d = .agg [.lit (.int .i64 l), .lit (.int .u64 k)] ∧ p = [] ∧ (Lit.int .i64 l).wf = true ∧ (Lit.int .u64 k).wf = true := by
  obtain ⟨c0, c1, y0, y1, m, rfl, rfl, rfl, hy0, hy1⟩ := open_agg2 Tryd.underlying27 (by kernel_rfl) (by kernel_rfl) hv h
  obtain ⟨l, e0, rfl, w0⟩ := DataW.trod_int Tryd.underlying3 hy0
  obtain ⟨k, e1, rfl, w1⟩ := DataW.trod_int Tryd.underlying25 hy1
  simp at e0 e1
  subst e0 e1
  exact ⟨l, k, rfl, rfl, rfl, w0, w1⟩
theorem shut_label {W' : World} {sp : Nat → Bool} {l k : Int} (w0 : (Lit.int .i64 l).wf = true) (w1 : (Lit.int .u64 k).wf = true) :
    DataW.Trod enc Tryd.prog W' 0 sp true 27 (.agg #[.int .i64 l, .int .u64 k]) (.agg [.lit (.int .i64 l), .lit (.int .u64 k)]) [] :=
  shut_agg2 (y0 := (.lit (.int .i64 l), [])) (y1 := (.lit (.int .u64 k), [])) Tryd.underlying27 (by kernel_rfl) (by kernel_rfl) ⟨1, by simp [DataW.trod, Tryd.underlying3, w0]⟩ ⟨1, by simp [DataW.trod, Tryd.underlying25, w1]⟩
theorem wf_u64 {k : Int} (h : (Lit.int .u64 k).wf = true) : 0 ≤ k ∧ k < 18446744073709551616 := by
  simp only [Lit.wf, Bool.and_eq_true, decide_eq_true_eq] at h
  have a : IntKind.u64.min = 0 := by decide
  have b : IntKind.u64.max = 18446744073709551615 := by decide
  omega
end

section
variable {H : Type} {enc : TypeId × Value → H} {W W' : World} {args : Array Value} {ds : List (DataW H)} {before : List MemPlace} {f : Func} {s : ChangeSpec}
/-- The answer true, with nothing that was there touched and the arguments reading as before: what each of the rows asks. -/
theorem true_post (hv : s.vars = []) (hr : f.resultTypes = #[4]) (hs : s.fn H ds = { results := [.lit (.bool true)], args := ds }) (hW : DataW.Whole enc Tryd.prog f.params.toList s.vars false W args.toList ds [] before)
    (hargs : DataW.TrodAll enc Tryd.prog W' 0 (fun b => decide (b < W.heap.size)) true f.params.toList args.toList ds before) (hb : Below W.heap.size W W') :
    s.post enc Tryd.prog f false true false false W args (.bool true) W' := by
  refine ⟨ds, [], before, [], before, [], hW, ?_, ?_, ?_, hb.frame _, fun h => by cases h⟩
  · rw [hr, List.append_nil, hs]
    exact trodAll_mk1 (shut_bool Tryd.underlying4 _)
  · rw [List.append_nil, hs]
    exact hargs
  · rw [hv, List.append_nil, hs]
    rfl
end

/-- The numbers of a table, in a row. -/
def flatLit : DataW Unit → List Value
  | .lit (.int k n) => [.int k n]
  | _ => []
def flatRow : DataW Unit → List Value
  | .agg ps => ps.flatMap flatLit
  | d => flatLit d
def flatTab : DataW Unit → List Value
  | .agg ps => ps.flatMap flatRow
  | _ => []
/-- A variable's cells, laid anew. -/
def laidAs (cs : Array Value) : Obj → Obj
  | .cells _ t frozen => .cells cs t frozen
  | o => o
/-- A first memory: as the program lays it, both listed tables in place. -/
noncomputable def firstWorld (os : Os) : World :=
  { World.holding Tryd.prog os ⟨#[], #[], []⟩ with heap := ((World.holding Tryd.prog os ⟨#[], #[], []⟩).heap.modify 2 (laidAs (flatTab Rows.laid_unicode_utf8_acceptRanges).toArray)).modify 1 (laidAs (flatTab Rows.laid_unicode_utf8_first).toArray) }
theorem first_met (os : Os) (args : Array Value) : laidMetH Tryd.prog Rows.latticeTellsRow.laid ((firstWorld os).forCall (fun _ _ => 0) ⟨#[], args, []⟩).memory :=
  laidMet_of_run' 8 (by kernel_rfl) (by kernel_rfl)
end Go.Proofs.YtkjiaklpffnhlaaDoor
