/-
  SpoolNumbers, for any rows of items and any numbers, of bulk at most 1048576 together: it returns true, and what it was handed reads as before. Its card's condition: the listed tables and errors as the program's text lays them.
-/
import Derived.Test.YtgpdplffljidbaaGreatDoorZWkNum
import Derived.Test.YtgpdplffljidbaaGreatDoorZArgsU
import Derived.ChangeMaps5
namespace Go.Proofs.YtgpdplffljidbaaGreatDoor
set_option maxRecDepth 100000
open Go.ChangeShapes Go.WideShapes Go.ChangeAt Go.RowKit

theorem wknum_lifted (os : Os) (started : os.Started) (H : Type) (enc : TypeId × Value → H) (F : Stop.Interp) :
    ReturnsInHanded {} Tryz.checked os 4 .any ((Rows.OpenSpec.upto Rows.spoolNumbersSpec).preRow enc Tryz.prog Tryz.f4 Rows.spoolNumbersUptoRow.domain false Rows.spoolNumbersUptoRow.laid) (((Rows.OpenSpec.upto Rows.spoolNumbersSpec).at F).post enc Tryz.prog Tryz.f4 false true false false) := by
  obtain ⟨places, hx⟩ : ∃ places, DataW.whole enc Tryz.prog ((firstWorld os).forCall (fun _ _ => 0) ⟨#[], #[.slice none 0 0, .slice none 0 0], []⟩).memory Tryz.f4.params.toList Rows.spoolNumbersSpec.vars false
      (#[.slice none 0 0, .slice none 0 0] : Array Value).toList 8 = some ([.nil, .nil], [], places) := ⟨[], by kernel_rfl⟩
  refine returnsInHanded_of_row (C := Tryz.checked) (s := Rows.OpenSpec.upto Rows.spoolNumbersSpec) own started (by kernel_rfl) Tryz.func4
    (witness_row_at (enc := enc) (C := Tryz.checked) false (firstWorld os) #[.slice none 0 0, .slice none 0 0] rfl (by kernel_rfl) (by kernel_rfl) (by kernel_rfl)
      (OpenSpec.preRow_of_cond 8 hx (by kernel_rfl) (fun k hk => by cases hk; kernel_rfl) (by kernel_rfl) (first_met os _))) ?_
  intro W base args ds gs before hval hW _ hcond _ hld hsh _
  have hW' := hW
  obtain ⟨p, q, hA0, hV, rfl, hfz, hnd⟩ := hW
  have hA : DataW.TrodAll enc Tryz.prog W 0 (fun _ => true) true Tryz.f4.params.toList args.toList ds p := hA0
  rw [Tryz.params4] at hA hval
  obtain ⟨v0, vs0, d0, ds0, p0, q0, hargs, rfl, rfl, h0, r0⟩ := trodAll_cons hA
  obtain ⟨v1, vs1, d1, ds1, p1, q1, rfl, rfl, rfl, h1, r1⟩ := trodAll_cons r0
  obtain ⟨rfl, rfl, rfl⟩ := trodAll_nil r1
  obtain rfl : args = #[v0, v1] := by cases args; simp_all
  obtain ⟨rfl, rfl⟩ := trodVars_none hV
  have hlt := hW'.lt
  obtain ⟨l0, hl0, hn0, hs0⟩ := open_itemssB (hval 0 64 v0 rfl rfl) h0
  have hbulk : Rows.uptoBulk d0 ≤ 1048576 := by
    have h := of_decide_eq_true (hcond _ rfl)
    simp only [List.cons_append, List.nil_append, Rows.uptoBulkAll] at h
    omega
  obtain ⟨A, n, c, rfl, hu1, hnc1, hcm1⟩ := open_u8s (hval 1 65 v1 rfl rfl) h1
  refine (wnum_walk v0 l0 A n c W (pow_laid hld) hl0 (by omega) (fun l hl => by have := hs0 l hl; omega) hu1 hnc1 hcm1).mono fun e W' ⟨he, hb⟩ => ?_
  subst he
  refine ⟨_, rfl, true_post rfl (by kernel_rfl) rfl hW' ?_ hb⟩
  rw [Tryz.params4]
  have k0 := Below.trod laid_out (by kernel_rfl) (of_decide_eq_true (by kernel_rfl)) h0 hb (fun x hx => hlt x (List.mem_append_left _ (List.mem_append_left _ hx)))
  have k1 := Below.trod laid_out (by kernel_rfl) (of_decide_eq_true (by kernel_rfl)) h1 hb (fun x hx => hlt x (List.mem_append_left _ (List.mem_append_right _ (List.mem_append_left _ hx))))
  have hp := trodAll_cons_mk k0 (trodAll_cons_mk k1 trodAll_mk0)
  simp only [List.append_nil] at hp ⊢
  exact hp

theorem wknum_said : Rows.SpoolNumbersUptoSaid :=
  OpenClaim.holds_of_cond 4 Tryz.f4 rfl rfl rfl rfl rfl rfl rfl ⟨rfl, rfl, rfl, rfl, rfl⟩ rfl rfl rfl rfl rfl (by kernel_rfl) Tryz.func4 (by kernel_rfl)
    (of_decide_eq_true (by kernel_rfl)) (by unfold Func.isWrapper; first | (rw [if_pos (by decide +kernel)]; kernel_rfl) | (rw [if_neg (by decide +kernel)]; exact ⟨rfl, rfl⟩))
    (fun os started H enc _ F => by rw [OpenClaim.pre_eq_preRow]; exact wknum_lifted os started H enc F)

theorem wknum_plain (f : FuncId) (fn : Func) (hf : Tryz.pinned.checked.prog.funcNamed "mailguard/mailguardlaw16.SpoolNumbers" = some f) (hfn : Tryz.pinned.checked.prog.funcs[f]? = some fn) :
    true = Tryz.pinned.checked.prog.looks [] ∧ ∀ (j : Nat) t, fn.params[j]? = some t → Tryz.pinned.checked.prog.wantsStandIn t = false := by
  obtain rfl : f = 4 := Option.some.inj ((show Tryz.prog.funcNamed "mailguard/mailguardlaw16.SpoolNumbers" = some 4 by kernel_rfl).symm.trans hf) |>.symm
  obtain rfl : fn = Tryz.f4 := (Option.some.inj (Tryz.func4.symm.trans hfn)).symm
  refine ⟨by kernel_rfl, fun j t ht => ?_⟩
  rw [Tryz.params4] at ht
  have hm : t = 64 ∨ t = 65 := by simpa using Array.mem_of_getElem? ht
  rcases hm with rfl | rfl
  · exact (show Tryz.prog.wantsStandIn 64 = false by kernel_rfl)
  · exact (show Tryz.prog.wantsStandIn 65 = false by kernel_rfl)

theorem wknum_card : Rows.SpoolNumbersUptoCardSaid :=
  Claim7.holds_tied_plain_at .later [] _ _ _ _ wknum_said (fun _ h => by cases h) (by kernel_rfl) (fun _ h => by cases h) spoolNumbersUpto_row_tie rfl ⟨rfl, rfl⟩ (by kernel_rfl) rfl wknum_plain (by kernel_rfl)
end Go.Proofs.YtgpdplffljidbaaGreatDoor
