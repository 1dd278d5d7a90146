/-
  What a call of a statement of layer 4 is handed, and what its answer 'true' comes to; the memory of a first call.
-/
import Derived.Test.YtnggjoleiapboaaRows
import Derived.WalkKit
import Derived.ProofKit
import Derived.OpenShut
import Derived.Below
import Derived.Deep.DeepHandedRow
import Derived.Lib.LaidTab
import Derived.Lib.SmallJoins
namespace Go.Proofs.Ytnggjoleiapboaa
set_option maxRecDepth 100000
open Go.ChangeShapes Go.WideShapes Go.ChangeAt Go.RowKit Go.Joins

theorem own : ownKnob Try.prog.godebug = none := by kernel_rfl
theorem laid_out3 : laidOutB Try.prog = true := by kernel_rfl

/-- A byte that is handed over is one. -/
theorem byte_of {i : Int} (h : (Lit.int .u8 i).wf = true) : ∃ c : UInt8, i = (c.toNat : Int) := by
  have h1 : 0 ≤ i ∧ i < 256 := by
    simp only [Lit.wf, Bool.and_eq_true, decide_eq_true_eq] at h
    have e1 : IntKind.u8.min = 0 := by decide
    have e2 : IntKind.u8.max = 255 := by decide
    omega
  refine ⟨UInt8.ofNat i.toNat, ?_⟩
  rw [UInt8.toNat_ofNat_of_lt' (by show i.toNat < 256; omega)]
  omega

section
variable {H : Type} {enc : TypeId × Value → H} {W W' : World} {args : Array Value} {ds : List (DataW H)} {before : List MemPlace} {f : Func} {s : ChangeSpec}
/-- The answer true, with nothing that was there touched and the arguments reading as before: what each of the rows asks. -/
theorem true_post (hv : s.vars = []) (hr : f.resultTypes = #[4]) (hs : s.fn H ds = { results := [.lit (.bool true)], args := ds }) (hW : DataW.Whole enc Try.prog f.params.toList s.vars false W args.toList ds [] before)
    (hargs : DataW.TrodAll enc Try.prog W' 0 (fun b => decide (b < W.heap.size)) true f.params.toList args.toList ds before) (hb : Below W.heap.size W W') :
    s.post enc Try.prog f false true false false W args (.bool true) W' := by
  refine ⟨ds, [], before, [], before, [], hW, ?_, ?_, ?_, hb.frame _, fun h => by cases h⟩
  · rw [hr, List.append_nil, hs]
    exact trodAll_mk1 (shut_bool Try.underlying4 _)
  · rw [List.append_nil, hs]
    exact hargs
  · rw [hv, List.append_nil, hs]
    rfl
end
/-- A first memory: as the program lays it. -/
noncomputable def firstWorld3 (os : Os) : World := World.holding Try.prog os ⟨#[], #[], []⟩
theorem first_met3 (os : Os) (args : Array Value) : laidMetH Try.prog Rows.retryTellsRow.laid ((firstWorld3 os).forCall (fun _ _ => 0) ⟨#[], args, []⟩).memory :=
  laidMet_of_run' 8 (by kernel_rfl) (by kernel_rfl)
end Go.Proofs.Ytnggjoleiapboaa
