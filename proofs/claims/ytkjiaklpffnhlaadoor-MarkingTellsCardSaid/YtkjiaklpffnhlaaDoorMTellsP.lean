/-
  MarkingTells, for any lists, any label and any text: it returns true, and what it was handed reads as before. Its card's condition: the two listed tables of unicode/utf8 as the program's text lays them.
-/
import Derived.Test.YtkjiaklpffnhlaaDoorMTells
import Derived.Test.YtkjiaklpffnhlaaDoorLists
import Derived.ChangeMaps5
namespace Go.Proofs.YtkjiaklpffnhlaaDoor
set_option maxRecDepth 100000
open Go.ChangeShapes Go.WideShapes Go.ChangeAt Go.RowKit

theorem mtells_laid_out : laidOutB Tryd.prog = true := by kernel_rfl
theorem mtells_lifted (os : Os) (started : os.Started) (H : Type) (enc : TypeId × Value → H) (F : Stop.Interp) :
    ReturnsInHanded {} Tryd.checked os 5 .any ((OpenSpec.ofChange Rows.markingTellsSpec).preRow enc Tryd.prog Tryd.f5 Rows.markingTellsRow.domain false Rows.markingTellsRow.laid) (((OpenSpec.ofChange Rows.markingTellsSpec).at F).post enc Tryd.prog Tryd.f5 false true false false) := by
  obtain ⟨places, hx⟩ : ∃ places, DataW.whole enc Tryd.prog ((firstWorld os).forCall (fun _ _ => 0) ⟨#[], #[.agg #[.slice none 0 0, .slice none 0 0], .agg #[.int .i64 0, .int .u64 0], .string ⟨#[]⟩], []⟩).memory Tryd.f5.params.toList Rows.markingTellsSpec.vars false
      (#[.agg #[.slice none 0 0, .slice none 0 0], .agg #[.int .i64 0, .int .u64 0], .string ⟨#[]⟩] : Array Value).toList 8 = some ([.agg [.nil, .nil], .agg [.lit (.int .i64 0), .lit (.int .u64 0)], .lit (.string [])], [], places) := ⟨[], by kernel_rfl⟩
  refine returnsInHanded_of_row (C := Tryd.checked) (s := OpenSpec.ofChange Rows.markingTellsSpec) own started (by kernel_rfl) Tryd.func5
    (witness_row_at (enc := enc) (C := Tryd.checked) false (firstWorld os) #[.agg #[.slice none 0 0, .slice none 0 0], .agg #[.int .i64 0, .int .u64 0], .string ⟨#[]⟩] rfl (by kernel_rfl) (by kernel_rfl) (by kernel_rfl)
      (OpenSpec.preRow_of_cond 8 hx (by kernel_rfl) (fun k hk => by cases hk) (by kernel_rfl) (first_met os _))) ?_
  intro W base args ds gs before hval hW _ _ _ _ hsh _
  have hW' := hW
  obtain ⟨p, q, hA0, hV, rfl, hfz, hnd⟩ := hW
  have hA : DataW.TrodAll enc Tryd.prog W 0 (fun _ => true) true Tryd.f5.params.toList args.toList ds p := hA0
  rw [Tryd.params5] at hA hval
  obtain ⟨v0, vs0, d0, ds0, p0, q0, hargs, rfl, rfl, h0, r0⟩ := trodAll_cons hA
  obtain ⟨v1, vs1, d1, ds1, p1, q1, rfl, rfl, rfl, h1, r1⟩ := trodAll_cons r0
  obtain ⟨v2, vs2, d2, ds2, p2, q2, rfl, rfl, rfl, h2, r2⟩ := trodAll_cons r1
  obtain ⟨rfl, rfl, rfl⟩ := trodAll_nil r2
  obtain rfl : args = #[v0, v1, v2] := by cases args; simp_all
  obtain ⟨rfl, rfl⟩ := trodVars_none hV
  have hlt := hW'.lt
  obtain ⟨A, n, c, ss, A', n', c', ss', rfl, hs1, hs2, hsz⟩ := open_lattice (hval 0 24 v0 rfl rfl) h0
  obtain ⟨la, ca, rfl, rfl, rfl, wla, wca⟩ := open_label (hval 1 27 v1 rfl rfl) h1
  obtain ⟨s, rfl, rfl, rfl, ws⟩ := Go.ChangeMaps.open_string Tryd.underlying9 (hval 2 9 v2 rfl rfl) h2
  obtain ⟨m, hm⟩ := bound_cell hsh
  refine (mtells_walk W.heap.size n c n' c' A A' ss ss' la ca m s W (Nat.le_refl _) hs1 hs2 hsz hm (wf_u64 wca) ws).mono fun e W' ⟨he, hb⟩ => ?_
  subst he
  refine ⟨_, rfl, true_post rfl (by kernel_rfl) rfl hW' ?_ hb⟩
  rw [Tryd.params5]
  have k0 := Below.trod mtells_laid_out (by kernel_rfl) (of_decide_eq_true (by kernel_rfl)) h0 hb (fun x hx => hlt x (List.mem_append_left _ (List.mem_append_left _ hx)))
  have k2 := Below.trod mtells_laid_out (by kernel_rfl) (of_decide_eq_true (by kernel_rfl)) h2 hb (fun x hx => by cases hx)
  have hp := trodAll_cons_mk k0 (trodAll_cons_mk (shut_label (sp := fun b => decide (b < W.heap.size)) (W' := W') wla wca) (trodAll_cons_mk k2 trodAll_mk0))
  simp only [List.append_nil] at hp ⊢
  exact hp

theorem mtells_said : Rows.MarkingTellsSaid :=
  OpenClaim.holds_of_cond 5 Tryd.f5 rfl rfl rfl rfl rfl rfl rfl ⟨rfl, rfl, rfl, rfl, rfl⟩ rfl rfl rfl rfl rfl (by kernel_rfl) Tryd.func5 (by kernel_rfl)
    (of_decide_eq_true (by kernel_rfl)) (by unfold Func.isWrapper; first | (rw [if_pos (by decide +kernel)]; kernel_rfl) | (rw [if_neg (by decide +kernel)]; exact ⟨rfl, rfl⟩))
    (fun os started H enc _ F => by rw [OpenClaim.pre_eq_preRow]; exact mtells_lifted os started H enc F)

theorem mtells_plain (f : FuncId) (fn : Func) (hf : Tryd.pinned.checked.prog.funcNamed "mailguard/mailguardlaw02.MarkingTells" = some f) (hfn : Tryd.pinned.checked.prog.funcs[f]? = some fn) :
    false = Tryd.pinned.checked.prog.looks [] ∧ ∀ (j : Nat) t, fn.params[j]? = some t → Tryd.pinned.checked.prog.wantsStandIn t = false := by
  obtain rfl : f = 5 := Option.some.inj ((show Tryd.prog.funcNamed "mailguard/mailguardlaw02.MarkingTells" = some 5 by kernel_rfl).symm.trans hf) |>.symm
  obtain rfl : fn = Tryd.f5 := (Option.some.inj (Tryd.func5.symm.trans hfn)).symm
  refine ⟨by kernel_rfl, fun j t ht => ?_⟩
  rw [Tryd.params5] at ht
  have hm : t = 24 ∨ t = 27 ∨ t = 9 := by simpa using Array.mem_of_getElem? ht
  rcases hm with rfl | rfl | rfl
  · exact (show Tryd.prog.wantsStandIn 24 = false by kernel_rfl)
  · exact (show Tryd.prog.wantsStandIn 27 = false by kernel_rfl)
  · exact (show Tryd.prog.wantsStandIn 9 = false by kernel_rfl)

theorem mtells_card : Rows.MarkingTellsCardSaid :=
  Claim7.holds_tied_plain_at .later [] _ _ _ _ mtells_said (fun _ h => by cases h) (by kernel_rfl) (fun _ h => by cases h) markingTells_row_tie rfl ⟨rfl, rfl⟩ (by kernel_rfl) rfl mtells_plain (by kernel_rfl)
end Go.Proofs.YtkjiaklpffnhlaaDoor
