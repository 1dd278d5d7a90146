/-
  awake of layer 7 returns true.
-/
import Derived.Test.YtjmphdpeaahmfaaSecW
namespace Go.Proofs.Ytjmphdpeaahmfaa
open Go.RowKit Go.Maps

def awk0 : Dk := newD 2
def awk1 : Dk := armD awk0 1 1
def awk2 : Dk := writeD awk1 0 [97, 98]
def awk3 : Dk := startD awk2
def awk4 : Dk := writeD awk3 1 [120]
def awkT : ByteArray := ⟨(if checkD awk3 0 = 0 then awk3.ss.getD (0 : Int).toNat [] else []).toArray⟩

/-- What one disk's calls leave of what lay below. -/
theorem DiskAt.turned_below {w w0 w' : World} {N g : Nat} {d : Dk} (h : DiskAt w w0.heap.size N g d) (hb : Below w0.heap.size w0 w) (t : Turned (mineD N g) w w') : Below w0.heap.size w0 w' :=
  hb.trans (t.below hb.size (fun b hb => (h.blocks b hb).1))

set_option maxRecDepth 100000 in
set_option maxHeartbeats 4000000 in
theorem awake7_any (w : World) : Calls Try.prog 7 #[] w fun e w' => e = .returned (.bool true) ∧ Below w.heap.size w w' := by
  obtain ⟨X, hX, hT, hT0, hT1⟩ : ∃ X : ByteArray, Hid (awkT = X) ∧ ∃ hT : X.size = 64, ((X[0]'(by omega)).toNat : Int) = 97 ∧ ((X[1]'(by omega)).toNat : Int) = 0 := ⟨awkT, Lib.hid rfl, by kernel_rfl, by kernel_rfl, by kernel_rfl⟩
  go_enter Try.func7, Try.ntmps7
  go_wp2_with fail
  refine (snew_any w.heap.size w (Nat.le_refl _) 2 (by omega) (by omega)).mono ?_
  rintro e w1 ⟨N, g, rfl, hD, hb1, _⟩
  go_wp2_with fail
  refine (snew_bad w1 0 (by omega)).mono ?_
  rintro e w2 ⟨rfl, h9⟩
  obtain rfl := h9.symm
  clear h9
  go_wp2_with fail
  refine (arm_any w.heap.size N g awk0 w1 1 1 hD).mono ?_
  rintro e w2 ⟨rfl, hD2, t2⟩
  have hb2 := hD.turned_below hb1 t2
  clear hD hb1 t2
  go_wp2_with fail
  refine (swrite_any w.heap.size N g awk1 w2 hD2 hb2.size (by decide) 0 ⟨#[97, 98]⟩ (by decide)).mono ?_
  rintro e w3 ⟨rfl, hD3, t3⟩
  rw [show sayD awk1 0 (⟨#[97, 98]⟩ : ByteArray).data.toList = 6 by kernel_rfl]
  have hb3 := hD2.turned_below hb2 t3
  clear hD2 hb2 t3
  go_wp2_with fail
  refine (down_any w.heap.size N g awk2 w3 hD3).mono ?_
  rintro e w4 ⟨rfl, h9⟩
  obtain rfl := h9.symm
  rw [show awk2.down = true by kernel_rfl]
  clear h9
  go_wp2_with fail
  refine (sstart_any w.heap.size N g awk2 w3 hD3).mono ?_
  rintro e w4 ⟨rfl, hD4, t4⟩
  have hb4 := hD3.turned_below hb3 t4
  clear hD3 hb3 t4
  have hr : Calls Try.prog 13 #[.pointer (some ⟨N, 0, none⟩), .int .i64 0] w4 fun e w' => e = .returned (.tuple #[.string awkT, .int .i64 0]) ∧ w' = w4 := by
    have := sread_any w.heap.size N g awk3 w4 hD4 0
    unfold awkT
    rw [show checkD awk3 0 = 0 by kernel_rfl] at this ⊢
    exact this
  rw [hX.out] at hr
  go_wp2_with fail
  refine hr.mono ?_
  rintro e w5 ⟨rfl, h9⟩
  obtain rfl := h9.symm
  clear h9 hr
  go_wp2_with fail
  refine (swrite_any w.heap.size N g awk3 w4 hD4 hb4.size (by decide) 1 ⟨#[120]⟩ (by decide)).mono ?_
  rintro e w5 ⟨rfl, hD5, t5⟩
  rw [show sayD awk3 1 (⟨#[120]⟩ : ByteArray).data.toList = 0 by kernel_rfl]
  have hb5 := hD4.turned_below hb4 t5
  clear hD4 hb4 t5
  have hD6 : DiskAt w5 w.heap.size N g awk4 := hD5
  have hw := swrite_any w.heap.size N g awk4 w5 hD6 hb5.size (by decide) 2 ⟨#[]⟩ (by decide)
  rw [show sayD awk4 2 (⟨#[]⟩ : ByteArray).data.toList = 1 by kernel_rfl] at hw
  have HD := Lib.hid hD6
  have Hb := Lib.hid hb5
  clear hD5 hD6 hb5
  go_wp2_with fail
  refine hw.mono ?_
  rintro e w6 ⟨rfl, hD7, t7⟩
  have hb7 := HD.out.turned_below Hb.out t7
  have hs := size_any w.heap.size N g _ w6 hD7
  have hn := writes_any w.heap.size N g _ w6 hD7
  have hd := down_any w.heap.size N g _ w6 hD7
  rw [show (writeD awk4 2 (⟨#[]⟩ : ByteArray).data.toList).ss.length = 2 by kernel_rfl] at hs
  rw [show (writeD awk4 2 (⟨#[]⟩ : ByteArray).data.toList).wr = 2 by kernel_rfl] at hn
  rw [show (writeD awk4 2 (⟨#[]⟩ : ByteArray).data.toList).down = false by kernel_rfl] at hd
  have Hb7 := Lib.hid hb7
  clear hD7 t7 hb7 HD Hb hw
  go_wp2_with (first
    | (go_at_call 22; refine hs.mono ?_; rintro e w9 ⟨rfl, h9⟩; obtain rfl := h9.symm; clear h9)
    | (go_at_call 21; refine hn.mono ?_; rintro e w9 ⟨rfl, h9⟩; obtain rfl := h9.symm; clear h9)
    | (go_at_call 20; refine hd.mono ?_; rintro e w9 ⟨rfl, h9⟩; obtain rfl := h9.symm; clear h9))
  go_ret
  exact ⟨rfl, Hb7.out⟩
end Go.Proofs.Ytjmphdpeaahmfaa
