/-
  What layer 12's awake comes to: true.
-/
import Derived.Test.YtafpifpgfpkckaaDoorCtJ
import Derived.Test.YtafpifpgfpkckaaDoorCtE
namespace Go.Proofs.YtafpifpgfpkckaaDoor
open Go.RowKit

def firstC : TypeC := ([116, 101, 120, 116], [112, 108, 97, 105, 110], [([99, 104, 97, 114, 115, 101, 116], [117, 116, 102, 45, 56])])
theorem parse_firstC : parseT [84, 101, 120, 116, 47, 80, 108, 97, 105, 110, 32, 59, 32, 99, 104, 97, 114, 115, 101, 116, 61, 34, 117, 116, 102, 45, 56, 34] = (firstC, 0) := by decide +kernel
theorem print_firstC : printC firstC = ([116, 101, 120, 116, 47, 112, 108, 97, 105, 110, 59, 32, 99, 104, 97, 114, 115, 101, 116, 61, 117, 116, 102, 45, 56], 0) := by decide +kernel
theorem find_firstC : findC firstC.2.2 [99, 104, 97, 114, 115, 101, 116] = some ([99, 104, 97, 114, 115, 101, 116], [117, 116, 102, 45, 56]) := by decide +kernel
theorem parse_noC : parseT [116, 101, 120, 116] = (([], [], []), 2) := by decide +kernel
theorem right_firstC : rightC firstC = true := by decide +kernel
theorem same_firstC : decide (firstC = ([], [], [])) = false := by decide +kernel

set_option maxRecDepth 100000 in
set_option maxHeartbeats 4000000 in
theorem awake12_any (w : World) : Calls Tryd.prog 8 #[] w fun e w' => e = .returned (.bool true) ∧ Below w.heap.size w w' := by
  obtain ⟨X, hX⟩ : ∃ X : ByteArray, (⟨#[116, 101, 120, 116]⟩ : ByteArray) = X := ⟨_, rfl⟩
  obtain ⟨Y, hY⟩ : ∃ X : ByteArray, (⟨#[112, 108, 97, 105, 110]⟩ : ByteArray) = X := ⟨_, rfl⟩
  obtain ⟨E, hE⟩ : ∃ E : ByteArray, (⟨#[]⟩ : ByteArray) = E := ⟨_, rfl⟩
  have hp : Calls Tryd.prog 12 #[.string ⟨#[84, 101, 120, 116, 47, 80, 108, 97, 105, 110, 32, 59, 32, 99, 104, 97, 114, 115, 101, 116, 61, 34, 117, 116, 102, 45, 56, 34]⟩] w fun e w' => ∃ ao cap, e = .returned (.tuple #[.agg #[.string X, .string Y, .slice ao 1 cap], .int .i64 0]) ∧ Hid (ParsAt w' w'.heap.size (.slice ao 1 cap) firstC.2.2) ∧ Below w.heap.size w w' := by
    refine (cparse_any ⟨#[84, 101, 120, 116, 47, 80, 108, 97, 105, 110, 32, 59, 32, 99, 104, 97, 114, 115, 101, 116, 61, 34, 117, 116, 102, 45, 56, 34]⟩ w (by decide)).mono ?_
    rintro e w' ⟨v, rfl, hat, hb⟩
    rw [show parseT (⟨#[84, 101, 120, 116, 47, 80, 108, 97, 105, 110, 32, 59, 32, 99, 104, 97, 114, 115, 101, 116, 61, 34, 117, 116, 102, 45, 56, 34]⟩ : ByteArray).data.toList = (firstC, 0) from parse_firstC] at hat ⊢
    obtain ⟨ao, cap, rfl, _⟩ := hat.slice
    exact ⟨ao, cap, by rw [← hX, ← hY]; rfl, Lib.hid hat, hb⟩
  have hn : ∀ W, Calls Tryd.prog 12 #[.string ⟨#[116, 101, 120, 116]⟩] W fun e w' => (∃ ao cap, e = .returned (.tuple #[.agg #[.string E, .string E, .slice ao 0 cap], .int .i64 2])) ∧ Below W.heap.size W w' := fun W => by
    refine (cparse_any ⟨#[116, 101, 120, 116]⟩ W (by decide)).mono ?_
    rintro e w' ⟨v, rfl, hat, hb⟩
    rw [show parseT (⟨#[116, 101, 120, 116]⟩ : ByteArray).data.toList = (([], [], []), 2) from parse_noC] at hat ⊢
    obtain ⟨ao, cap, rfl, hc1, hc2⟩ := hat.slice
    exact ⟨⟨ao, cap, by rw [← hE]; rfl⟩, hb⟩
  have hpr : Hid (∀ W ao cap, ParsAt W W.heap.size (.slice ao 1 cap) firstC.2.2 → Calls Tryd.prog 10 #[.agg #[.string X, .string Y, .slice ao 1 cap]] W fun e w' => e = .returned (.tuple #[.string ⟨#[116, 101, 120, 116, 47, 112, 108, 97, 105, 110, 59, 32, 99, 104, 97, 114, 115, 101, 116, 61, 117, 116, 102, 45, 56]⟩, .int .i64 0]) ∧ Below W.heap.size W w') := Lib.hid fun W ao cap hW => by
    have := cprint_any W.heap.size _ firstC W hW (Nat.le_refl _)
    unfold printV12 at this
    rw [print_firstC] at this
    rw [← hX, ← hY]
    exact this
  have hpa : Hid (∀ W ao cap, ParsAt W W.heap.size (.slice ao 1 cap) firstC.2.2 → Calls Tryd.prog 14 #[.agg #[.string X, .string Y, .slice ao 1 cap], .string ⟨#[99, 104, 97, 114, 115, 101, 116]⟩] W fun e w' => e = .returned (.tuple #[.string ⟨#[117, 116, 102, 45, 56]⟩, .bool true]) ∧ Below W.heap.size W w') := Lib.hid fun W ao cap hW => by
    have := cparam_any W.heap.size _ firstC [99, 104, 97, 114, 115, 101, 116] W hW (Nat.le_refl _) (by decide)
    unfold paramV at this
    rw [find_firstC] at this
    rw [← hX, ← hY]
    exact this
  have hrt : Hid (∀ W ao cap, ParsAt W W.heap.size (.slice ao 1 cap) firstC.2.2 → Calls Tryd.prog 17 #[.agg #[.string X, .string Y, .slice ao 1 cap]] W fun e w' => e = .returned (.bool true) ∧ Below W.heap.size W w') := Lib.hid fun W ao cap hW => by
    have := cright_any W.heap.size _ firstC W hW (Nat.le_refl _)
    rw [right_firstC] at this
    rw [← hX, ← hY]
    exact this
  have hs1 : Hid (∀ W ao cap, ParsAt W W.heap.size (.slice ao 1 cap) firstC.2.2 → Calls Tryd.prog 19 #[.agg #[.string X, .string Y, .slice ao 1 cap], .agg #[.string X, .string Y, .slice ao 1 cap]] W fun e w' => e = .returned (.bool true) ∧ Below W.heap.size W w') := Lib.hid fun W ao cap hW => by
    have := csame_any W.heap.size _ _ firstC firstC W hW hW (Nat.le_refl _)
    rw [decide_eq_true rfl] at this
    rw [← hX, ← hY]
    exact this
  have hs2 : Hid (∀ W ao cap, ParsAt W W.heap.size (.slice ao 1 cap) firstC.2.2 → Calls Tryd.prog 19 #[.agg #[.string X, .string Y, .slice ao 1 cap], .agg #[.string ⟨#[]⟩, .string ⟨#[]⟩, .slice none 0 0]] W fun e w' => e = .returned (.bool false) ∧ Below W.heap.size W w') := Lib.hid fun W ao cap hW => by
    have := csame_any W.heap.size _ (.slice none 0 0) firstC ([], [], []) W hW (ParsAt.nil _ _) (Nat.le_refl _)
    rw [same_firstC] at this
    rw [← hX, ← hY]
    exact this
  clear hX hY hE
  go_enter Tryd.func8, Tryd.ntmps8
  go_wp2_with fail
  refine hp.mono ?_
  rintro e w1 ⟨ao, cap, rfl, hat, hw1⟩
  obtain ⟨w2, hw2⟩ : ∃ w2, w1.alloc (.cells #[.string X, .string Y, .slice ao 1 cap] 24) = w2 := ⟨_, rfl⟩
  have l2 : Below w1.heap.size w1 w2 := by rw [← hw2]; exact (Below.refl _ _).alloc (Nat.le_refl _) _
  have t2 : TypAt w2 w1.heap.size X Y ao 1 cap := by rw [← hw2]; exact typ_new w1 _ _ _ _ _
  obtain ⟨c0, c1, c2, _⟩ := t2.cells
  have K2 : Hid (ParsAt w2 w2.heap.size (.slice ao 1 cap) firstC.2.2 ∧ TypAt w2 w1.heap.size X Y ao 1 cap ∧ Below w.heap.size w w2) := Lib.hid ⟨(hat.out.below l2 (Nat.le_refl _)).up l2.size, t2, hw1.trans (l2.mono hw1.size)⟩
  have step : Hid (∀ W W', (ParsAt W W.heap.size (.slice ao 1 cap) firstC.2.2 ∧ TypAt W w1.heap.size X Y ao 1 cap ∧ Below w.heap.size w W) → Below W.heap.size W W' → (ParsAt W' W'.heap.size (.slice ao 1 cap) firstC.2.2 ∧ TypAt W' w1.heap.size X Y ao 1 cap ∧ Below w.heap.size w W')) := Lib.hid fun W W' ⟨h1, h2, h3⟩ hb => ⟨(h1.below hb (Nat.le_refl _)).up hb.size, h2.below hb, h3.trans (hb.mono h3.size)⟩
  have h1 := hpr.out w2 ao cap K2.out.1
  clear hp hat hw1 l2 t2 hpr
  go_wp2_with fail
  refine h1.mono ?_
  rintro e w3 ⟨rfl, hw3⟩
  have K3 := Lib.hid (step.out _ _ K2.out hw3)
  obtain ⟨c0, c1, c2, _⟩ := K3.out.2.1.cells
  have h1 := hpa.out w3 ao cap K3.out.1
  clear hw3 K2 hpa
  go_wp2_with fail
  refine h1.mono ?_
  rintro e w4 ⟨rfl, hw4⟩
  have K4 := Lib.hid (step.out _ _ K3.out hw4)
  have h1 := hn w4
  clear hw4 K3 hn
  go_wp2_with fail
  refine h1.mono ?_
  rintro e w5 ⟨⟨bo, cap5, rfl⟩, hw5⟩
  obtain ⟨w6, hw6⟩ : ∃ w6, w5.alloc (.cells #[.string E, .string E, .slice bo 0 cap5] 24) = w6 := ⟨_, rfl⟩
  have l6 : Below w5.heap.size w5 w6 := by rw [← hw6]; exact (Below.refl _ _).alloc (Nat.le_refl _) _
  have n6 : TypAt w6 w5.heap.size E E bo 0 cap5 := by rw [← hw6]; exact typ_new w5 _ _ _ _ _
  have K6 := Lib.hid (step.out _ _ (step.out _ _ K4.out hw5) l6)
  obtain ⟨c0, c1, c2, _⟩ := K6.out.2.1.cells
  obtain ⟨d0, d1, d2, d3, d4, d5⟩ := n6.cells
  have h1 := hrt.out w6 ao cap K6.out.1
  clear hw5 l6 n6 K4 hrt
  go_wp2_with fail
  refine h1.mono ?_
  rintro e w7 ⟨rfl, hw7⟩
  have K7 := Lib.hid (step.out _ _ K6.out hw7)
  obtain ⟨c0, c1, c2, _⟩ := K7.out.2.1.cells
  have h1 := hs1.out w7 ao cap K7.out.1
  clear hw7 K6 hs1
  go_wp2_with fail
  refine h1.mono ?_
  rintro e w8 ⟨rfl, hw8⟩
  have K8 := Lib.hid (step.out _ _ K7.out hw8)
  obtain ⟨c0, c1, c2, _⟩ := K8.out.2.1.cells
  have h1 := hs2.out w8 ao cap K8.out.1
  clear hw8 K7 hs2
  go_wp2_with fail
  refine h1.mono ?_
  rintro e w9 ⟨rfl, hw9⟩
  have K9 := Lib.hid (step.out _ _ K8.out hw9)
  clear hw9 K8 step
  go_wp2
  go_ret
  exact ⟨rfl, K9.out.2.2⟩
end Go.Proofs.YtafpifpgfpkckaaDoor
