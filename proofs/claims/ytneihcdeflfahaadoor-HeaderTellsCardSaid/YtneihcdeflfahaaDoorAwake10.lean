/-
  What layer 10's awake comes to: true.
-/
import Derived.Test.YtneihcdeflfahaaDoorHdF
import Derived.Test.YtneihcdeflfahaaDoorHdI
namespace Go.Proofs.YtneihcdeflfahaaDoor
open Go.RowKit

def subjH : TextH := [83, 117, 98, 106, 101, 99, 116]
def lowerH : TextH := [115, 117, 98, 106, 101, 99, 116]
def abH : TextH := [97, 32, 98]
def twoF : List FieldH := [(subjH, abH), ([88], [])]
theorem print_two : printV10 twoF = .tuple #[.string ⟨#[83, 117, 98, 106, 101, 99, 116, 58, 32, 97, 32, 98, 13, 10, 88, 58, 13, 10, 13, 10]⟩, .int .i64 0] := by
  unfold printV10
  rw [show printH twoF = ([83, 117, 98, 106, 101, 99, 116, 58, 32, 97, 32, 98, 13, 10, 88, 58, 13, 10, 13, 10], 0) by decide +kernel]
  rfl
theorem parse_one : parseH [115, 117, 98, 106, 101, 99, 116, 58, 32, 97, 13, 10, 32, 98, 13, 10, 13, 10, 98, 111, 100, 121] = (([(lowerH, abH)], [98, 111, 100, 121]), 0) := by decide +kernel
theorem parse_x : parseH [120] = (([], []), 2) := by decide +kernel
theorem get_one : getH [(lowerH, abH)] [83, 85, 66, 74, 69, 67, 84] = some abH := by decide +kernel
theorem same_one : sameH [65] [97] = true := by decide +kernel
theorem right_one : rightB (lowerH, abH) = true := by decide +kernel

set_option maxRecDepth 100000 in
set_option maxHeartbeats 4000000 in
theorem awake10_any (m : Int) (w : World) (hm : w.cell? ⟨0, 0, none⟩ = some (.int .i64 m)) :
    Calls Tryd.prog 9 #[] w fun e w' => e = .returned (.bool true) ∧ Below w.heap.size w w' := by
  obtain ⟨w0, hw0⟩ : ∃ w0, w.alloc (.cells #[.string ⟨#[83, 117, 98, 106, 101, 99, 116]⟩, .string ⟨#[97, 32, 98]⟩, .string ⟨#[88]⟩, .string ⟨#[]⟩] 38) = w0 := ⟨_, rfl⟩
  have b0 : Below w.heap.size w w0 := by rw [← hw0]; exact (Below.refl _ _).alloc (Nat.le_refl _) _
  have z0 : w0.heap.size = w.heap.size + 1 := by rw [← hw0]; simp
  have hh : w0.heap[w.heap.size]? = some (.cells #[.string ⟨#[83, 117, 98, 106, 101, 99, 116]⟩, .string ⟨#[97, 32, 98]⟩, .string ⟨#[88]⟩, .string ⟨#[]⟩] 38 (0, 0)) := by rw [← hw0]; exact heap_alloc_new w _
  have hF : FieldsAt w0 w0.heap.size (.slice (some ⟨w.heap.size, 0, none⟩) 2 2) twoF := by
    refine ⟨_, 2, rfl, Nat.le_refl _, by decide, fun i hi => ⟨w.heap.size, 0, rfl, by omega, ?_⟩⟩
    have hi2 : i < 2 := hi
    rcases (by omega : i = 0 ∨ i = 1) with rfl | rfl
    · exact ⟨Lib.cell_of_heap hh 0, Lib.cell_of_heap hh 1⟩
    · exact ⟨Lib.cell_of_heap hh 2, Lib.cell_of_heap hh 3⟩
  have hpr := hprint_any w0.heap.size _ twoF w0 hF (Nat.le_refl _) (by unfold SmallF; decide)
  rw [print_two] at hpr
  have hps : Hid (∀ W, Below w.heap.size w W → Calls Tryd.prog 13 #[.string ⟨#[115, 117, 98, 106, 101, 99, 116, 58, 32, 97, 13, 10, 32, 98, 13, 10, 13, 10, 98, 111, 100, 121]⟩] W fun e w' => ∃ g cap, e = .returned (.tuple #[.slice (some ⟨g, 0, none⟩) 1 cap, .string ⟨#[98, 111, 100, 121]⟩, .int .i64 0]) ∧ w'.cell? ⟨g, 0, none⟩ = some (.string (textQ lowerH)) ∧ w'.cell? ⟨g, 1, none⟩ = some (.string (textQ abH)) ∧ g < w'.heap.size ∧ Hid (FieldsAt w' w'.heap.size (.slice (some ⟨g, 0, none⟩) 1 cap) [(lowerH, abH)]) ∧ Below W.heap.size W w') := Lib.hid fun W hW => by
    refine (hparse_any ⟨#[115, 117, 98, 106, 101, 99, 116, 58, 32, 97, 13, 10, 32, 98, 13, 10, 13, 10, 98, 111, 100, 121]⟩ m W (by decide) (bound_abide hm hW)).mono ?_
    rintro e w' ⟨v, rfl, hown, hb⟩
    rw [show parseH (⟨#[115, 117, 98, 106, 101, 99, 116, 58, 32, 97, 13, 10, 32, 98, 13, 10, 13, 10, 98, 111, 100, 121]⟩ : ByteArray).data.toList = (([(lowerH, abH)], [98, 111, 100, 121]), 0) from parse_one] at hown ⊢
    have hat := FieldsOwn.at hown
    obtain ⟨ao, cap, rfl, h1, h2, h3⟩ := hat
    rcases hown.2 with ⟨e, _⟩ | ⟨g, cap', cur, e, hg1, hg2, hg3⟩
    · cases e
    · cases e
      have hlt := (Array.getElem?_eq_some_iff.1 hg2).1
      obtain ⟨g', off', e', q1, q2, q3⟩ := h3 0 (by simp)
      cases e'
      exact ⟨g, cap, rfl, q2, q3, hlt, Lib.hid ⟨_, cap, rfl, h1, h2, h3⟩, hb⟩
  have hpx : Hid (∀ W, Below w.heap.size w W → Calls Tryd.prog 13 #[.string ⟨#[120]⟩] W fun e w' => ∃ v, e = .returned (.tuple #[v, .string ⟨#[]⟩, .int .i64 2]) ∧ Below W.heap.size W w') := Lib.hid fun W hW => by
    refine (hparse_any ⟨#[120]⟩ m W (by decide) (bound_abide hm hW)).mono ?_
    rintro e w' ⟨v, rfl, hown, hb⟩
    rw [show parseH (⟨#[120]⟩ : ByteArray).data.toList = (([], []), 2) from parse_x]
    exact ⟨v, rfl, hb⟩
  have hgt : Hid (∀ W v, FieldsAt W W.heap.size v [(lowerH, abH)] → Calls Tryd.prog 15 #[v, .string ⟨#[83, 85, 66, 74, 69, 67, 84]⟩] W fun e w' => e = .returned (.tuple #[.string ⟨#[97, 32, 98]⟩, .bool true]) ∧ Below W.heap.size W w') := Lib.hid fun W v hv => by
    have := hget_any W.heap.size v [(lowerH, abH)] ⟨#[83, 85, 66, 74, 69, 67, 84]⟩ W hv (Nat.le_refl _) (by unfold SmallF; decide) (by decide)
    rw [show getH [(lowerH, abH)] (⟨#[83, 85, 66, 74, 69, 67, 84]⟩ : ByteArray).data.toList = some abH from get_one] at this
    exact this
  have hsm := fun W => hsame_any ⟨#[65]⟩ ⟨#[97]⟩ W (by decide) (by decide)
  rw [show sameH (⟨#[65]⟩ : ByteArray).data.toList (⟨#[97]⟩ : ByteArray).data.toList = true from same_one] at hsm
  have hrt := fun W => hright_any (lowerH, abH) W (by decide)
  rw [right_one] at hrt
  have hrt2 : ∀ W, Calls Tryd.prog 17 #[.agg #[.string ⟨#[115, 117, 98, 106, 101, 99, 116]⟩, .string ⟨#[97, 32, 98]⟩]] W fun e w' => e = .returned (.bool true) ∧ Below W.heap.size W w' := hrt
  have B0 := Lib.hid b0
  have Z0 := Lib.hid z0
  clear hh hF b0 z0 hrt
  go_enter Tryd.func9, Tryd.ntmps9
  go_wp2_with fail
  refine hpr.mono ?_
  rintro e w1 ⟨rfl, hw1⟩
  have hb1 := B0.out.trans (hw1.mono B0.out.size)
  have hp1 := hps.out w1 hb1
  clear hpr hw1 hw0
  go_wp2_with fail
  refine hp1.mono ?_
  rintro e w2 ⟨g, cap, rfl, c0, c1, hg, hF2, hw2⟩
  have hb2 := hb1.trans (hw2.mono hb1.size)
  have hp2 := hpx.out w2 hb2
  clear hp1 hw2 hb1
  go_wp2_with fail
  refine hp2.mono ?_
  rintro e w3 ⟨v3, rfl, hw3⟩
  have hb3 := hb2.trans (hw3.mono hb2.size)
  have c30 := (hw3.cell (p := ⟨g, 0, none⟩) hg).trans c0
  have c31 := (hw3.cell (p := ⟨g, 1, none⟩) hg).trans c1
  have hg3 : g < w3.heap.size := by have := hw3.size; omega
  have hp3 := hgt.out w3 _ ((hF2.out.below hw3 (Nat.le_refl _)).up hw3.size)
  clear hp2 hw3 hb2 c0 c1
  go_wp2_with fail
  refine hp3.mono ?_
  rintro e w4 ⟨rfl, hw4⟩
  have hb4 := hb3.trans (hw4.mono hb3.size)
  have c40 : w4.cell? ⟨g, 0, none⟩ = some (.string ⟨#[115, 117, 98, 106, 101, 99, 116]⟩) := (hw4.cell (p := ⟨g, 0, none⟩) hg3).trans c30
  have c41 : w4.cell? ⟨g, 1, none⟩ = some (.string ⟨#[97, 32, 98]⟩) := (hw4.cell (p := ⟨g, 1, none⟩) hg3).trans c31
  have hg4 : g < w4.heap.size := by have := hw4.size; omega
  clear hp3 hw4 hb3 c30 c31 hg3
  go_wp2_with fail
  refine (hsm _).mono ?_
  rintro e w5 ⟨rfl, hw5⟩
  have hb5 := hb4.trans (hw5.mono hb4.size)
  have c50 := (hw5.cell (p := ⟨g, 0, none⟩) hg4).trans c40
  have c51 := (hw5.cell (p := ⟨g, 1, none⟩) hg4).trans c41
  have hg5 : g < w5.heap.size := by have := hw5.size; omega
  clear hsm hw5 hb4 c40 c41 hg4
  go_wp2_with fail
  refine (hrt2 _).mono ?_
  rintro e w6 ⟨rfl, hw6⟩
  go_wp2
  go_ret
  exact ⟨rfl, hb5.trans (hw6.mono hb5.size)⟩
end Go.Proofs.YtneihcdeflfahaaDoor
