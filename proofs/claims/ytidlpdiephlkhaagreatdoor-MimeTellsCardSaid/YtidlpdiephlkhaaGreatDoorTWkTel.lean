/-
  MimeTells: the walk.
-/
import Derived.Test.YtidlpdiephlkhaaGreatDoorT42
import Derived.Test.YtidlpdiephlkhaaGreatDoorT37
import Derived.Test.YtidlpdiephlkhaaGreatDoorTR13Q
namespace Go.Proofs.YtidlpdiephlkhaaGreatDoor
open Go.RowKit

set_option maxRecDepth 100000 in
set_option maxHeartbeats 4000000 in
theorem mtells_walk (s : ByteArray) (m : Int) (w : World) (hm : w.cell? ⟨0, 0, none⟩ = some (.int .i64 m)) (hs : s.size ≤ maxLen) :
    Calls Tryz.prog 3 #[.string s] w fun e w' => e = .returned (.bool true) ∧ Below w.heap.size w w' := by
  have haw := awake13_any m w hm
  have HM : Hid (∀ W, Below w.heap.size w W → W.cell? ⟨0, 0, none⟩ = some (.int .i64 m)) := Lib.hid fun W hW => bound_abide hm hW
  unfold maxLen at hs
  clear hm
  go_enter Tryz.func3, Tryz.ntmps3
  go_wp2_with fail
  refine haw.mono ?_
  rintro e w1 ⟨rfl, hw1⟩
  have B1 := Lib.hid hw1
  clear haw hw1
  by_cases h1 : 17000 < s.size
  · have h1i : (17000 : Int) < (s.size : Int) := by omega
    clear h1
    go_wp2
    go_ret
    exact ⟨rfl, B1.out⟩
  · have h1i : (s.size : Int) ≤ 17000 := by omega
    have hp0 := mparse_any s m w1 (by omega) (HM.out w1 B1.out)
    have hq0 := fun W => r13parse_any s W (by omega)
    obtain ⟨⟨p, er⟩, hr⟩ : ∃ r, parseM s.data.toList = r := ⟨_, rfl⟩
    unfold ParsePostM at hp0 hq0
    simp only [hr] at hp0 hq0
    obtain ⟨X, hX⟩ : ∃ X, textQ p.typ.1 = X := ⟨_, rfl⟩
    obtain ⟨Y, hY⟩ : ∃ Y, textQ p.typ.2.1 = Y := ⟨_, rfl⟩
    obtain ⟨D, hD⟩ : ∃ D, textQ p.body = D := ⟨_, rfl⟩
    have hp : Calls Tryz.prog 11 #[.string s] w1 fun e w' => ∃ a1 n1 c1 a2 n2 c2 a3 n3 c3, e = .returned (.tuple #[.agg #[.slice a1 n1 c1, .string X, .string Y, .slice a2 n2 c2, .string D, .slice a3 n3 c3], .int .i64 er]) ∧ Hid (TreeAt w' w'.heap.size p (.slice a1 n1 c1) (.slice a2 n2 c2) (.slice a3 n3 c3) ∧ Below w1.heap.size w1 w') := hp0.mono fun e w' ⟨fv, pv, rv, h1, h2, h3⟩ => by
      obtain ⟨⟨a1, n1, c1, rfl⟩, ⟨a2, n2, c2, rfl⟩, ⟨a3, n3, c3, rfl⟩⟩ := h2.slices
      exact ⟨a1, n1, c1, a2, n2, c2, a3, n3, c3, by rw [h1, ← hX, ← hY, ← hD]; rfl, Lib.hid ⟨h2.at, h3⟩⟩
    have hq : Hid (∀ W, Calls Tryz.prog 12 #[.string s] W fun e w' => ∃ a1 n1 c1 a2 n2 c2 a3 n3 c3, e = .returned (.tuple #[.agg #[.slice a1 n1 c1, .string X, .string Y, .slice a2 n2 c2, .string D, .slice a3 n3 c3], .int .i64 er]) ∧ Hid (TreeAt w' w'.heap.size p (.slice a1 n1 c1) (.slice a2 n2 c2) (.slice a3 n3 c3) ∧ Below W.heap.size W w')) := Lib.hid fun W => (hq0 W).mono fun e w' ⟨fv, pv, rv, h1, h2, h3⟩ => by
      obtain ⟨⟨a1, n1, c1, rfl⟩, ⟨a2, n2, c2, rfl⟩, ⟨a3, n3, c3, rfl⟩⟩ := h2.slices
      exact ⟨a1, n1, c1, a2, n2, c2, a3, n3, c3, by rw [h1, ← hX, ← hY, ← hD]; rfl, Lib.hid ⟨h2.at, h3⟩⟩
    have hsm : Hid (∀ W a1 n1 c1 a2 n2 c2 a3 n3 c3 b1 m1 d1 b2 m2 d2 b3 m3 d3, TreeAt W W.heap.size p (.slice a1 n1 c1) (.slice a2 n2 c2) (.slice a3 n3 c3) → TreeAt W W.heap.size p (.slice b1 m1 d1) (.slice b2 m2 d2) (.slice b3 m3 d3) → Calls Tryz.prog 13 #[.agg #[.slice a1 n1 c1, .string X, .string Y, .slice a2 n2 c2, .string D, .slice a3 n3 c3], .agg #[.slice b1 m1 d1, .string X, .string Y, .slice b2 m2 d2, .string D, .slice b3 m3 d3]] W fun e w' => e = .returned (.bool true) ∧ Below W.heap.size W w') := Lib.hid fun W a1 n1 c1 a2 n2 c2 a3 n3 c3 b1 m1 d1 b2 m2 d2 b3 m3 d3 ht ht2 => by
      have := r13same_any W.heap.size (countM p) p (Nat.le_refl _) p _ _ _ _ _ _ W ht ht2 (Nat.le_refl _)
      unfold partV at this
      rw [hX, hY, hD, decide_eq_true rfl] at this
      exact this
    clear hp0 hq0 hr hX hY hD h1 hs HM
    go_wp2_with fail
    refine hp.mono ?_
    rintro e w2 ⟨a1, n1, c1, a2, n2, c2, a3, n3, c3, rfl, hx⟩
    obtain ⟨w3, hw3⟩ : ∃ W, w2.alloc (.cells #[.slice a1 n1 c1, .string X, .string Y, .slice a2 n2 c2, .string D, .slice a3 n3 c3] 29) = W := ⟨_, rfl⟩
    have K3 : Hid (TreeAt w3 w3.heap.size p (.slice a1 n1 c1) (.slice a2 n2 c2) (.slice a3 n3 c3) ∧ Below w.heap.size w w3 ∧ PrtAt w3 w2.heap.size (.slice a1 n1 c1) (.string X) (.string Y) (.slice a2 n2 c2) (.string D) (.slice a3 n3 c3)) := Lib.hid (by
      obtain ⟨k1, k2⟩ := hx.out
      have l3 : Below w2.heap.size w2 w3 := by rw [← hw3]; exact (Below.refl _ _).alloc (Nat.le_refl _) _
      have b13 := k2.trans (l3.mono k2.size)
      exact ⟨(k1.below l3 (Nat.le_refl _)).up l3.size, B1.out.trans (b13.mono B1.out.size), by rw [← hw3]; exact prt_new w2 _ _ _ _ _ _⟩)
    have h4 := hq.out w3
    clear hp hx hq
    go_wp2_with fail
    refine h4.mono ?_
    rintro e w4 ⟨b1, m1, d1, b2, m2, d2, b3, m3, d3, rfl, hx⟩
    obtain ⟨w5, hw5⟩ : ∃ W, w4.alloc (.cells #[.slice b1 m1 d1, .string X, .string Y, .slice b2 m2 d2, .string D, .slice b3 m3 d3] 29) = W := ⟨_, rfl⟩
    have l5 : Below w4.heap.size w4 w5 := by rw [← hw5]; exact (Below.refl _ _).alloc (Nat.le_refl _) _
    have p5 : PrtAt w5 w4.heap.size (.slice b1 m1 d1) (.string X) (.string Y) (.slice b2 m2 d2) (.string D) (.slice b3 m3 d3) := by rw [← hw5]; exact prt_new w4 _ _ _ _ _ _
    have q5 := (K3.out.2.2.below hx.out.2).below l5
    obtain ⟨x0, x1, x2, x3, x4, x5, -⟩ := p5.cells
    obtain ⟨y0, y1, y2, y3, y4, y5, -⟩ := q5.cells
    have b35 := hx.out.2.trans (l5.mono hx.out.2.size)
    have B5 := Lib.hid (K3.out.2.1.trans (b35.mono K3.out.2.1.size))
    have h6 := hsm.out w5 _ _ _ _ _ _ _ _ _ _ _ _ _ _ _ _ _ _ ((K3.out.1.below b35 (Nat.le_refl _)).up b35.size) ((hx.out.1.below l5 (Nat.le_refl _)).up l5.size)
    clear h4 hx l5 p5 q5 b35 K3 hsm
    go_wp2_with fail
    refine h6.mono ?_
    rintro e w6 ⟨rfl, hb⟩
    have B6 := Lib.hid (B5.out.trans (hb.mono B5.out.size))
    clear h6 hb
    go_wp2
    go_ret
    exact ⟨by first | rfl | simp, B6.out⟩
end Go.Proofs.YtidlpdiephlkhaaGreatDoor
