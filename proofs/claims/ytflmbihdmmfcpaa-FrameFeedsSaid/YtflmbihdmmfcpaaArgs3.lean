/-
  What a call of a statement of layer 3 is handed, and what its answer 'true' comes to; the memory of a first call.
-/
import Derived.Test.YtflmbihdmmfcpaaRows
import Derived.WalkKit
import Derived.ProofKit
import Derived.OpenShut
import Derived.Below
import Derived.Deep.DeepHandedRow
import Derived.Lib.LaidTab
import Derived.Lib.SmallJoins
namespace Go.Proofs.Ytflmbihdmmfcpaa
set_option maxRecDepth 100000
open Go.ChangeShapes Go.WideShapes Go.ChangeAt Go.RowKit Go.Joins

theorem own : ownKnob Try.prog.godebug = none := by kernel_rfl
theorem laid_out3 : laidOutB Try.prog = true := by kernel_rfl

/-- The length bound of the string search is some int. -/
theorem bound_cell {W : World} (h : W.ShapedOpen Try.prog) : ∃ m : Int, W.cell? ⟨0, 0, none⟩ = some (.int .i64 m) := by
  obtain ⟨cs, hh, hs, hr⟩ := h.1 0 #[.int .i64 0] 3 (of_decide_eq_true (by kernel_rfl)) (by kernel_rfl)
  obtain ⟨ts, hts, _, hall⟩ := hr (by kernel_rfl)
  have e : Try.prog.cellTypes Try.prog.depth 3 = some [3] := by kernel_rfl
  rw [e] at hts
  cases hts
  have h1 : 0 < cs.size := by rw [hs]; decide
  obtain ⟨u, hu, hok⟩ := hall 0 cs[0] (by simp [h1])
  have : u = 3 := by simpa using hu.symm
  subst this
  have hcell : W.cell? ⟨0, 0, none⟩ = some cs[0] := by simp [World.cell?, hh, h1]
  rw [hcell]
  unfold Cell.ok at hok
  rw [Try.underlying3] at hok
  cases hv : cs[0] <;> rw [hv] at hok <;> simp at hok
  obtain ⟨rfl, _⟩ := hok
  exact ⟨_, rfl⟩

section
variable {H : Type} {enc : TypeId × Value → H} {W W' : World} {args : Array Value} {ds : List (DataW H)} {before : List MemPlace} {f : Func} {s : ChangeSpec}
/-- The answer true, with nothing that was there touched and the arguments reading as before: what each of the rows asks. -/
theorem true_post (hv : s.vars = []) (hr : f.resultTypes = #[4]) (hs : s.fn H ds = { results := [.lit (.bool true)], args := ds }) (hW : DataW.Whole enc Try.prog f.params.toList s.vars false W args.toList ds [] before)
    (hargs : DataW.TrodAll enc Try.prog W' 0 (fun b => decide (b < W.heap.size)) true f.params.toList args.toList ds before) (hb : Below W.heap.size W W') :
    s.post enc Try.prog f false true false false W args (.bool true) W' := by
  refine ⟨ds, [], before, [], before, [], hW, ?_, ?_, ?_, hb.frame _, fun h => by cases h⟩
  · rw [hr, List.append_nil, hs]
    exact trodAll_mk1 (shut_bool Try.underlying4 _)
  · rw [List.append_nil, hs]
    exact hargs
  · rw [hv, List.append_nil, hs]
    rfl
end
/-- A first memory: as the program lays it. -/
noncomputable def firstWorld3 (os : Os) : World := World.holding Try.prog os ⟨#[], #[], []⟩
theorem first_met3 (os : Os) (args : Array Value) : laidMetH Try.prog Rows.frameFeedsRow.laid ((firstWorld3 os).forCall (fun _ _ => 0) ⟨#[], args, []⟩).memory :=
  laidMet_of_run' 8 (by kernel_rfl) (by kernel_rfl)
end Go.Proofs.Ytflmbihdmmfcpaa
