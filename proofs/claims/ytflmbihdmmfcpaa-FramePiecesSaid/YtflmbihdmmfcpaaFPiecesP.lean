/-
  FramePieces, for any list of texts: it returns true, and what it was handed reads as before. No condition.
-/
import Derived.Test.YtflmbihdmmfcpaaFPieces
import Derived.Test.YtflmbihdmmfcpaaLists6
import Derived.ChangeMaps5
namespace Go.Proofs.Ytflmbihdmmfcpaa
set_option maxRecDepth 100000
open Go.ChangeShapes Go.WideShapes Go.ChangeAt Go.RowKit

theorem fpieces_lifted (os : Os) (started : os.Started) (H : Type) (enc : TypeId × Value → H) (F : Stop.Interp) :
    ReturnsInHanded {} Try.checked os 4 .any ((OpenSpec.ofChange Rows.framePiecesSpec).preRow enc Try.prog Try.f4 Rows.framePiecesRow.domain false Rows.framePiecesRow.laid) (((OpenSpec.ofChange Rows.framePiecesSpec).at F).post enc Try.prog Try.f4 false true false false) := by
  obtain ⟨places, hx⟩ : ∃ places, DataW.whole enc Try.prog ((firstWorld3 os).forCall (fun _ _ => 0) ⟨#[], #[.slice none 0 0], []⟩).memory Try.f4.params.toList Rows.framePiecesSpec.vars false
      (#[.slice none 0 0] : Array Value).toList 8 = some ([.nil], [], places) := ⟨[], by kernel_rfl⟩
  refine returnsInHanded_of_row (C := Try.checked) (s := OpenSpec.ofChange Rows.framePiecesSpec) own started (by kernel_rfl) Try.func4
    (witness_row_at (enc := enc) (C := Try.checked) false (firstWorld3 os) #[.slice none 0 0] rfl (by kernel_rfl) (by kernel_rfl) (by kernel_rfl)
      (OpenSpec.preRow_of_cond 8 hx (by kernel_rfl) (fun k hk => by cases hk) (by kernel_rfl) (first_met3 os _))) ?_
  intro W base args ds gs before hval hW _ _ hwt _ hsh _
  have hW' := hW
  obtain ⟨p, q, hA0, hV, rfl, hfz, hnd⟩ := hW
  have hA : DataW.TrodAll enc Try.prog W 0 (fun _ => true) true Try.f4.params.toList args.toList ds p := hA0
  rw [Try.params4] at hA hval hwt
  obtain ⟨v0, vs0, d0, ds0, p0, q0, hargs, rfl, rfl, h0, r0⟩ := trodAll_cons hA
  obtain ⟨rfl, rfl, rfl⟩ := trodAll_nil r0
  obtain rfl : args = #[v0] := by cases args; simp_all
  obtain ⟨rfl, rfl⟩ := trodVars_none hV
  have hlt := hW'.lt
  obtain ⟨A, n, c, ss, rfl, hs1, hs2⟩ := open_list6 hwt (hval 0 22 v0 rfl rfl) h0
  obtain ⟨m, hm⟩ := bound_cell hsh
  refine (fpieces_walk W.heap.size n c A ss m W (Nat.le_refl _) hs1 hs2 hm).mono fun e W' ⟨he, hb⟩ => ?_
  subst he
  refine ⟨_, rfl, true_post rfl (by kernel_rfl) rfl hW' ?_ hb⟩
  rw [Try.params4]
  have k0 := Below.trod laid_out3 (by kernel_rfl) (of_decide_eq_true (by kernel_rfl)) h0 hb (fun x hx => hlt x (List.mem_append_left _ (List.mem_append_left _ hx)))
  have hp := trodAll_cons_mk k0 trodAll_mk0
  simp only [List.append_nil] at hp ⊢
  exact hp

theorem fpieces_said : Rows.FramePiecesSaid :=
  OpenClaim.holds_of_cond 4 Try.f4 rfl rfl rfl rfl rfl rfl rfl ⟨rfl, rfl, rfl, rfl, rfl⟩ rfl rfl rfl rfl rfl (by kernel_rfl) Try.func4 (by kernel_rfl)
    (of_decide_eq_true (by kernel_rfl)) (by unfold Func.isWrapper; first | (rw [if_pos (by decide +kernel)]; kernel_rfl) | (rw [if_neg (by decide +kernel)]; exact ⟨rfl, rfl⟩))
    (fun os started H enc _ F => by rw [OpenClaim.pre_eq_preRow]; exact fpieces_lifted os started H enc F)
end Go.Proofs.Ytflmbihdmmfcpaa
