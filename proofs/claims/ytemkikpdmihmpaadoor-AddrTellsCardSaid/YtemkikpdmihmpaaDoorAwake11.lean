/-
  What layer 11's awake comes to: true.
-/
import Derived.Test.YtemkikpdmihmpaaDoorAdN
namespace Go.Proofs.YtemkikpdmihmpaaDoor
open Go.RowKit

def firstA : AddrA := ([65, 46, 32, 66], [97], [98])
def twoA : List AddrA := [firstA, ([], [99], [100])]
theorem parse_two : parseA [34, 65, 46, 32, 66, 34, 32, 60, 97, 64, 98, 62, 44, 32, 99, 64, 100, 32, 40, 120, 41] = (twoA, 0) := by decide +kernel
theorem print_twoA : printA twoA = ([34, 65, 46, 32, 66, 34, 32, 60, 97, 64, 98, 62, 44, 32, 99, 64, 100], 0) := by decide +kernel
theorem mail_one : mailA [97, 46, 98, 64, 99] = some ([], [97, 46, 98], [99]) := by decide +kernel
theorem mail_no : mailA [60, 97, 64, 98, 62] = none := by decide +kernel
theorem right_oneA : rightA ([], [97, 46, 98], [99]) = true := by decide +kernel

set_option maxRecDepth 100000 in
set_option maxHeartbeats 4000000 in
theorem awake11_any (m : Int) (w : World) (hm : w.cell? ⟨0, 0, none⟩ = some (.int .i64 m)) :
    Calls Tryd.prog 5 #[] w fun e w' => e = .returned (.bool true) ∧ Below w.heap.size w w' := by
  have hps : Calls Tryd.prog 10 #[.string ⟨#[34, 65, 46, 32, 66, 34, 32, 60, 97, 64, 98, 62, 44, 32, 99, 64, 100, 32, 40, 120, 41]⟩] w fun e w' => ∃ g cap, e = .returned (.tuple #[.slice (some ⟨g, 0, none⟩) 2 cap, .int .i64 0]) ∧ w'.cell? ⟨g, 0, none⟩ = some (.string ⟨#[65, 46, 32, 66]⟩) ∧ w'.cell? ⟨g, 1, none⟩ = some (.string ⟨#[97]⟩) ∧ w'.cell? ⟨g, 2, none⟩ = some (.string ⟨#[98]⟩) ∧ g < w'.heap.size ∧ Hid (AddrsAt w' w'.heap.size (.slice (some ⟨g, 0, none⟩) 2 cap) twoA) ∧ Below w.heap.size w w' := by
    refine (aparse_any ⟨#[34, 65, 46, 32, 66, 34, 32, 60, 97, 64, 98, 62, 44, 32, 99, 64, 100, 32, 40, 120, 41]⟩ w).mono ?_
    rintro e w' ⟨v, rfl, hown, hb⟩
    rw [show parseA (⟨#[34, 65, 46, 32, 66, 34, 32, 60, 97, 64, 98, 62, 44, 32, 99, 64, 100, 32, 40, 120, 41]⟩ : ByteArray).data.toList = (twoA, 0) from parse_two] at hown ⊢
    have hat := AddrsOwn.at hown
    obtain ⟨ao, cap, rfl, h1, h2, h3⟩ := hat
    rcases hown.2 with ⟨e, _⟩ | ⟨g, cap', cur, e, hg1, hg2, hg3⟩
    · cases e
    · cases e
      have hlt := heap_lt hg2
      obtain ⟨g', off', e', q1, q2, q3, q4⟩ := h3 0 (by decide)
      cases e'
      exact ⟨g, cap, rfl, q2, q3, q4, hlt, Lib.hid ⟨_, cap, rfl, h1, h2, h3⟩, hb⟩
  have hpr : Hid (∀ W v, AddrsAt W W.heap.size v twoA → Calls Tryd.prog 7 #[v] W fun e w' => e = .returned (.tuple #[.string ⟨#[34, 65, 46, 32, 66, 34, 32, 60, 97, 64, 98, 62, 44, 32, 99, 64, 100]⟩, .int .i64 0]) ∧ Below W.heap.size W w') := Lib.hid fun W v hv => by
    have := aprint_any W.heap.size v twoA W hv (Nat.le_refl _)
    unfold printV11 at this
    rw [print_twoA] at this
    exact this
  have hm1 : Hid (∀ W, Below w.heap.size w W → Calls Tryd.prog 12 #[.string ⟨#[97, 46, 98, 64, 99]⟩] W fun e w' => e = .returned (.tuple #[.agg #[.string ⟨#[]⟩, .string ⟨#[97, 46, 98]⟩, .string ⟨#[99]⟩], .int .i64 0]) ∧ Below W.heap.size W w') := Lib.hid fun W hW => by
    have := amail_any ⟨#[97, 46, 98, 64, 99]⟩ m W (by decide) (bound_abideA hm hW)
    rw [show mailA (⟨#[97, 46, 98, 64, 99]⟩ : ByteArray).data.toList = some ([], [97, 46, 98], [99]) from mail_one] at this
    exact this
  obtain ⟨E, hE⟩ : ∃ E : ByteArray, (⟨#[]⟩ : ByteArray) = E := ⟨_, rfl⟩
  have hm2 : Hid (∀ W, Below w.heap.size w W → Calls Tryd.prog 12 #[.string ⟨#[60, 97, 64, 98, 62]⟩] W fun e w' => e = .returned (.tuple #[.agg #[.string E, .string E, .string E], .int .i64 2]) ∧ Below W.heap.size W w') := Lib.hid fun W hW => by
    rw [← hE]
    have := amail_any ⟨#[60, 97, 64, 98, 62]⟩ m W (by decide) (bound_abideA hm hW)
    rw [show mailA (⟨#[60, 97, 64, 98, 62]⟩ : ByteArray).data.toList = none from mail_no] at this
    exact this
  have hrt := fun W => aright_any ([], [97, 46, 98], [99]) W
  rw [right_oneA] at hrt
  have hrt2 : ∀ W, Calls Tryd.prog 14 #[.agg #[.string ⟨#[]⟩, .string ⟨#[97, 46, 98]⟩, .string ⟨#[99]⟩]] W fun e w' => e = .returned (.bool true) ∧ Below W.heap.size W w' := hrt
  clear hrt hE
  go_enter Tryd.func5, Tryd.ntmps5
  go_wp2_with fail
  refine hps.mono ?_
  rintro e w1 ⟨g, cap, rfl, c0, c1, c2, hg, hF1, hw1⟩
  have hp1 := hpr.out w1 _ hF1.out
  clear hps hpr hF1
  go_wp2_with fail
  refine hp1.mono ?_
  rintro e w2 ⟨rfl, hw2⟩
  have hb2 := hw1.trans (hw2.mono hw1.size)
  have C2 := Lib.hid (And.intro ((hw2.cell (p := ⟨g, 0, none⟩) hg).trans c0) (And.intro ((hw2.cell (p := ⟨g, 1, none⟩) hg).trans c1) (And.intro ((hw2.cell (p := ⟨g, 2, none⟩) hg).trans c2) (Nat.lt_of_lt_of_le hg hw2.size))))
  have hp2 := hm1.out w2 hb2
  clear hp1 hw1 hw2 c0 c1 c2 hg hm1
  go_wp2_with fail
  refine hp2.mono ?_
  rintro e w3 ⟨rfl, hw3⟩
  obtain ⟨w4, hw4⟩ : ∃ w4, w3.alloc (.cells #[.string ⟨#[]⟩, .string ⟨#[97, 46, 98]⟩, .string ⟨#[99]⟩] 37) = w4 := ⟨_, rfl⟩
  have n4 : AddrAt w4 w3.heap.size ⟨#[]⟩ ⟨#[97, 46, 98]⟩ ⟨#[99]⟩ := by rw [← hw4]; exact addr_new w3 _ _ _
  have l4 : Below w2.heap.size w2 w4 := by rw [← hw4]; exact hw3.alloc hw3.size _
  have hb4 := hb2.trans (l4.mono hb2.size)
  have hp4 := hm2.out w4 hb4
  obtain ⟨g0, g1, g2, g3⟩ := C2.out
  have C4 := Lib.hid (And.intro ((l4.cell (p := ⟨g, 0, none⟩) g3).trans g0) (And.intro ((l4.cell (p := ⟨g, 1, none⟩) g3).trans g1) (And.intro ((l4.cell (p := ⟨g, 2, none⟩) g3).trans g2) (Nat.lt_of_lt_of_le g3 l4.size))))
  have N4 := Lib.hid n4
  have B4 := Lib.hid hb4
  clear hp2 hw3 n4 l4 hb4 hb2 hm2 g0 g1 g2 g3 C2
  go_wp2_with fail
  refine hp4.mono ?_
  rintro e w5 ⟨rfl, hw5⟩
  obtain ⟨w6, hw6⟩ : ∃ w6, w5.alloc (.cells #[.string E, .string E, .string E] 37) = w6 := ⟨_, rfl⟩
  have l6 : Below w4.heap.size w4 w6 := by rw [← hw6]; exact hw5.alloc hw5.size _
  have n6 := N4.out.below l6
  obtain ⟨x0, x1, x2, _⟩ := n6.cells
  have a6 : AddrAt w6 w5.heap.size E E E := by rw [← hw6]; exact addr_new w5 _ _ _
  obtain ⟨u0, u1, u2, u3, u4, u5⟩ := a6.cells
  obtain ⟨g0, g1, g2, g3⟩ := C4.out
  have y0 := (l6.cell (p := ⟨g, 0, none⟩) g3).trans g0
  have y1 := (l6.cell (p := ⟨g, 1, none⟩) g3).trans g1
  have y2 := (l6.cell (p := ⟨g, 2, none⟩) g3).trans g2
  have B6 := Lib.hid (B4.out.trans (l6.mono B4.out.size))
  clear hp4 hw5 l6 n6 g0 g1 g2 g3 N4 a6
  go_wp2_with fail
  refine (hrt2 _).mono ?_
  rintro e w7 ⟨rfl, hw7⟩
  go_wp2
  go_ret
  exact ⟨rfl, B6.out.trans (hw7.mono B6.out.size)⟩
end Go.Proofs.YtemkikpdmihmpaaDoor
