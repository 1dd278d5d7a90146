/-
  awake, the fifth law file's own call: true, and what it makes lies in memory of its own.
-/
import Derived.Test.YtjkcjbbkplonkaaDoorWDev
import Derived.Test.YtjkcjbbkplonkaaDoorW5E
namespace Go.Proofs.YtjkcjbbkplonkaaDoor
open Go.RowKit

theorem wakeW_dec : decW [61, 63, 85, 84, 70, 45, 56, 63, 66, 63, 119, 54, 107, 61, 63, 61] = some [195, 169] := by
  have h : encW [195, 169] = [61, 63, 85, 84, 70, 45, 56, 63, 66, 63, 119, 54, 107, 61, 63, 61] := by
    unfold encW
    rw [if_neg (by decide), words_short (by decide)]
    decide +kernel
  rw [← h, dec_encW]
theorem wakeW_a : wordW [97] = [61, 63, 85, 84, 70, 45, 56, 63, 66, 63, 89, 81, 61, 61, 63, 61] := by decide +kernel
theorem wakeW_none : decW [61, 63, 85, 84, 70, 45, 56, 63, 66, 63, 89, 81, 61, 61, 63, 61] = none := by
  rw [← wakeW_a]
  unfold decW
  rw [if_neg (by decide), splitB_one _ _ (word_no_blank _)]
  unfold readW
  simp only [List.foldl_cons, List.foldl_nil, stepW, one_word (x := [97]) (by simp) (by simp)]
  rw [if_pos (by decide)]
theorem wakeW_e1 : encW [104, 101, 108, 108, 111] = [104, 101, 108, 108, 111] := by
  unfold encW
  rw [if_pos (by decide)]
theorem wakeW_e2 : encW [195, 169] = [61, 63, 85, 84, 70, 45, 56, 63, 66, 63, 119, 54, 107, 61, 63, 61] := by
  unfold encW
  rw [if_neg (by decide), words_short (by decide)]
  decide +kernel

set_option maxRecDepth 100000 in
set_option maxHeartbeats 2000000 in
theorem awakeW_any (m : Int) (w : World) (hm : w.cell? ⟨0, 0, none⟩ = some (.int .i64 m)) : Calls Tryd.prog 7 #[] w fun e w' => e = .returned (.bool true) ∧ Below w.heap.size w w' := by
  have D1 : Hid (∀ W, Below w.heap.size w W → Calls Tryd.prog 8 #[.string ⟨#[61, 63, 85, 84, 70, 45, 56, 63, 66, 63, 119, 54, 107, 61, 63, 61]⟩] W fun e w' => e = .returned (.tuple #[.string ⟨#[195, 169]⟩, .int .i64 0]) ∧ Below W.heap.size W w') := Lib.hid fun W hW => by
    have := wdec_any ⟨#[61, 63, 85, 84, 70, 45, 56, 63, 66, 63, 119, 54, 107, 61, 63, 61]⟩ m W (by decide) (bound_belowW hm hW)
    rw [show (⟨#[61, 63, 85, 84, 70, 45, 56, 63, 66, 63, 119, 54, 107, 61, 63, 61]⟩ : ByteArray).data.toList = [61, 63, 85, 84, 70, 45, 56, 63, 66, 63, 119, 54, 107, 61, 63, 61] from rfl, wakeW_dec] at this
    exact this
  have D2 : Hid (∀ W, Below w.heap.size w W → Calls Tryd.prog 8 #[.string ⟨#[61, 63, 85, 84, 70, 45, 56, 63, 66, 63, 89, 81, 61, 61, 63, 61]⟩] W fun e w' => e = .returned (.tuple #[.string ⟨#[]⟩, .int .i64 2]) ∧ Below W.heap.size W w') := Lib.hid fun W hW => by
    have := wdec_any ⟨#[61, 63, 85, 84, 70, 45, 56, 63, 66, 63, 89, 81, 61, 61, 63, 61]⟩ m W (by decide) (bound_belowW hm hW)
    rw [show (⟨#[61, 63, 85, 84, 70, 45, 56, 63, 66, 63, 89, 81, 61, 61, 63, 61]⟩ : ByteArray).data.toList = [61, 63, 85, 84, 70, 45, 56, 63, 66, 63, 89, 81, 61, 61, 63, 61] from rfl, wakeW_none] at this
    exact this
  have E1 : Hid (∀ W, Below w.heap.size w W → Calls Tryd.prog 10 #[.string ⟨#[104, 101, 108, 108, 111]⟩] W fun e w' => e = .returned (.string ⟨#[104, 101, 108, 108, 111]⟩) ∧ Below W.heap.size W w') := Lib.hid fun W hW => by
    have := wenc_any ⟨#[104, 101, 108, 108, 111]⟩ m W (by decide) (bound_belowW hm hW)
    rw [show (⟨#[104, 101, 108, 108, 111]⟩ : ByteArray).data.toList = [104, 101, 108, 108, 111] from rfl, wakeW_e1] at this
    exact this
  have E2 : Hid (∀ W, Below w.heap.size w W → Calls Tryd.prog 10 #[.string ⟨#[195, 169]⟩] W fun e w' => e = .returned (.string ⟨#[61, 63, 85, 84, 70, 45, 56, 63, 66, 63, 119, 54, 107, 61, 63, 61]⟩) ∧ Below W.heap.size W w') := Lib.hid fun W hW => by
    have := wenc_any ⟨#[195, 169]⟩ m W (by decide) (bound_belowW hm hW)
    rw [show (⟨#[195, 169]⟩ : ByteArray).data.toList = [195, 169] from rfl, wakeW_e2] at this
    exact this
  have P1 : Hid (∀ W, Below w.heap.size w W → Calls Tryd.prog 12 #[.string ⟨#[97, 32, 98]⟩] W fun e w' => e = .returned (.bool true) ∧ W = w') := Lib.hid fun W hW => by
    have := wplain_any ⟨#[97, 32, 98]⟩ m W (by decide) (bound_belowW hm hW)
    rw [show plainW (⟨#[97, 32, 98]⟩ : ByteArray).data.toList = true by decide] at this
    exact this
  have P2 : Hid (∀ W, Below w.heap.size w W → Calls Tryd.prog 12 #[.string ⟨#[61, 63]⟩] W fun e w' => e = .returned (.bool false) ∧ W = w') := Lib.hid fun W hW => by
    have := wplain_any ⟨#[61, 63]⟩ m W (by decide) (bound_belowW hm hW)
    rw [show plainW (⟨#[61, 63]⟩ : ByteArray).data.toList = false by decide] at this
    exact this
  go_enter Tryd.func7, Tryd.ntmps7
  go_wp2_with fail
  refine (D1.out _ (Below.refl _ _)).mono ?_
  rintro e wa ⟨rfl, ha⟩
  go_wp2_with fail
  refine (D2.out _ ha).mono ?_
  rintro e wb ⟨rfl, hb⟩
  have ab := ha.trans (hb.mono ha.size)
  clear ha hb
  go_wp2_with fail
  refine (E1.out _ ab).mono ?_
  rintro e wc ⟨rfl, hc⟩
  have ac := ab.trans (hc.mono ab.size)
  clear hc
  go_wp2_with fail
  refine (E2.out _ ac).mono ?_
  rintro e wd ⟨rfl, hd⟩
  have ad := ac.trans (hd.mono ac.size)
  clear hd
  go_wp2_with fail
  refine (P1.out _ ad).mono ?_
  rintro e we ⟨rfl, rfl⟩
  go_wp2_with fail
  refine (P2.out _ ad).mono ?_
  rintro e we ⟨rfl, rfl⟩
  go_wp2
  go_ret
  exact ⟨rfl, ad⟩
end Go.Proofs.YtjkcjbbkplonkaaDoor
