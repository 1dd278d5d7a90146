/-
  awake, the third law file's own call: true, and what it makes lies in memory of its own.
-/
import Derived.Test.YteihmdjjofekoaaC64
import Derived.Test.YteihmdjjofekoaaU64
import Derived.Test.YteihmdjjofekoaaF64
namespace Go.Proofs.Yteihmdjjofekoaa
open Go.RowKit

theorem wake3_dec : decB [97, 71, 86, 115, 98, 71, 56, 61] = some [104, 101, 108, 108, 111] := by decide +kernel
theorem wake3_none : decB [97, 71, 86, 115, 98, 71, 56] = none := by decide +kernel
theorem wake3_a : decB [89, 81, 61, 61] = some [97] := by decide +kernel
theorem wake3_enc : encB [97] = [89, 81, 61, 61] := by decide +kernel
theorem wake3_fold : foldB (encB [97]) = [89, 81, 61, 61, 13, 10] := by
  rw [wake3_enc, fold_cons (by simp)]
  simp [fold_nil]
theorem wake3_unf : unfoldB [89, 81, 61, 61, 13, 10] = some [97] := by
  rw [← wake3_fold]
  exact unfold_fold [97]

set_option maxRecDepth 100000 in
set_option maxHeartbeats 2000000 in
theorem awake3_any (m : Int) (w : World) (hm : w.cell? ⟨0, 0, none⟩ = some (.int .i64 m)) :
    Calls Try.prog 9 #[] w fun e w' => e = .returned (.bool true) ∧ Below w.heap.size w w' := by
  have hmb := cell_in hm
  have D1 : Hid (∀ W, Calls Try.prog 10 #[.string ⟨#[97, 71, 86, 115, 98, 71, 56, 61]⟩] W fun e w' => e = .returned (.tuple #[.string ⟨#[104, 101, 108, 108, 111]⟩, .int .i64 0]) ∧ Below W.heap.size W w') := Lib.hid fun W => by
    have := dec_any ⟨#[97, 71, 86, 115, 98, 71, 56, 61]⟩ W (by decide)
    rw [show (⟨#[97, 71, 86, 115, 98, 71, 56, 61]⟩ : ByteArray).data.toList = [97, 71, 86, 115, 98, 71, 56, 61] from rfl, wake3_dec] at this
    exact this
  have D2 : Hid (∀ W, Calls Try.prog 10 #[.string ⟨#[97, 71, 86, 115, 98, 71, 56]⟩] W fun e w' => e = .returned (.tuple #[.string ⟨#[]⟩, .int .i64 2]) ∧ Below W.heap.size W w') := Lib.hid fun W => by
    have := dec_any ⟨#[97, 71, 86, 115, 98, 71, 56]⟩ W (by decide)
    rw [show (⟨#[97, 71, 86, 115, 98, 71, 56]⟩ : ByteArray).data.toList = [97, 71, 86, 115, 98, 71, 56] from rfl, wake3_none] at this
    exact this
  have C1 : Hid (∀ W N, CoderIn W N 0 0 0 (fun _ => 0) → Calls Try.prog 19 #[.pointer (some ⟨N, 0, none⟩), .string ⟨#[89, 81, 61, 61]⟩] W fun e w' => e = .returned (.tuple #[.string ⟨#[97]⟩, .int .i64 0]) ∧ CoderIn w' N 1 0 1 (tabV 64) ∧ W.grownBy w' (some N)) := Lib.hid fun W N h => by
    have := cdec_any N 0 ⟨#[89, 81, 61, 61]⟩ W (.inl h) (by decide)
    rw [show (⟨#[89, 81, 61, 61]⟩ : ByteArray).data.toList = [89, 81, 61, 61] from rfl, wake3_a] at this
    have e1 : wrap64 (0 + (((some ([97] : List UInt8)).getD []).length : Int)) = 1 := (IntWalk.wrap64_in _ (by decide)).trans rfl
    rw [e1] at this
    exact this
  have U1 : Hid (∀ W, W.cell? ⟨0, 0, none⟩ = some (.int .i64 m) → Calls Try.prog 12 #[.string ⟨#[89, 81, 61, 61, 13, 10]⟩] W fun e w' => e = .returned (.tuple #[.string ⟨#[97]⟩, .int .i64 0]) ∧ Below W.heap.size W w') := Lib.hid fun W hW => by
    have := unfold_any ⟨#[89, 81, 61, 61, 13, 10]⟩ m W (by decide) hW
    rw [show (⟨#[89, 81, 61, 61, 13, 10]⟩ : ByteArray).data.toList = [89, 81, 61, 61, 13, 10] from rfl, wake3_unf] at this
    exact this
  have E1 : Hid (∀ W, Calls Try.prog 14 #[.string ⟨#[97]⟩] W fun e w' => e = .returned (.string ⟨#[89, 81, 61, 61]⟩) ∧ Below W.heap.size W w') := Lib.hid fun W => by
    have := enc_any ⟨#[97]⟩ W (by decide)
    rw [show (⟨#[97]⟩ : ByteArray).data.toList = [97] from rfl, wake3_enc] at this
    exact this
  have F1 : Hid (∀ W, Calls Try.prog 16 #[.string ⟨#[97]⟩] W fun e w' => e = .returned (.string ⟨#[89, 81, 61, 61, 13, 10]⟩) ∧ Below W.heap.size W w') := Lib.hid fun W => by
    have := fold_any ⟨#[97]⟩ W (by decide)
    rw [show (⟨#[97]⟩ : ByteArray).data.toList = [97] from rfl, wake3_fold] at this
    exact this
  go_enter Try.func9, Try.ntmps9
  go_wp2_with fail
  refine (D1.out _).mono ?_
  rintro e wa ⟨rfl, ha⟩
  go_wp2_with fail
  refine (D2.out _).mono ?_
  rintro e wb ⟨rfl, hb⟩
  have ab := ha.trans (hb.mono ha.size)
  go_wp2_with fail
  refine (new_any _).mono ?_
  rintro e wc ⟨rfl, hN, hc⟩
  have ac := ab.trans (hc.mono ab.size)
  have hbz := ab.size
  have hNl := hN.lt
  go_wp2_with fail
  refine (C1.out _ _ hN).mono ?_
  rintro e wd ⟨rfl, hN2, hd⟩
  have ad := ac.trans (below_grown_at hd (by omega) hbz)
  have hN2l := hN2.lt
  clear hN ha hb hc hd ab
  go_wp2_with fail
  refine (U1.out _ ((ad.cell (p := ⟨0, 0, none⟩) hmb).trans hm)).mono ?_
  rintro e we ⟨rfl, he⟩
  have hN3 := hN2.below he hN2l
  have ae := ad.trans (he.mono ad.size)
  have hN3l := hN3.lt
  clear hN2 he
  go_wp2_with fail
  refine (E1.out _).mono ?_
  rintro e wf ⟨rfl, hf⟩
  have hN4 := hN3.below hf hN3l
  have af := ae.trans (hf.mono ae.size)
  clear hN3 hf
  go_wp2_with fail
  refine (count_any _ _ _ _ _ hN4).mono ?_
  rintro e wg ⟨rfl, hg⟩
  obtain rfl := hg.symm
  clear hg
  go_wp2_with fail
  refine (F1.out _).mono ?_
  rintro e wh ⟨rfl, hh⟩
  have ah := af.trans (hh.mono af.size)
  go_wp2
  go_ret
  exact ⟨rfl, ah⟩
end Go.Proofs.Yteihmdjjofekoaa
