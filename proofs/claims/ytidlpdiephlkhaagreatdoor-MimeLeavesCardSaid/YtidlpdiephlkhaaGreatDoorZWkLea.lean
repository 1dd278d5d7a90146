/-
  MimeLeaves: the walk.
-/
import Derived.Test.YtidlpdiephlkhaaGreatDoorZ44
import Derived.Test.YtidlpdiephlkhaaGreatDoorZ33
import Derived.Test.YtidlpdiephlkhaaGreatDoorZ37
namespace Go.Proofs.YtidlpdiephlkhaaGreatDoor
open Go.RowKit

set_option maxRecDepth 100000 in
set_option maxHeartbeats 4000000 in
theorem mleaves_walk (s : ByteArray) (m : Int) (w : World) (hm : w.cell? ⟨0, 0, none⟩ = some (.int .i64 m)) (hs : s.size ≤ maxLen) :
    Calls Tryz.prog 5 #[.string s] w fun e w' => e = .returned (.bool true) ∧ Below w.heap.size w w' := by
  have haw := awake13_any m w hm
  have HM : Hid (∀ W, Below w.heap.size w W → W.cell? ⟨0, 0, none⟩ = some (.int .i64 m)) := Lib.hid fun W hW => bound_abide hm hW
  unfold maxLen at hs
  clear hm
  go_enter Tryz.func5, Tryz.ntmps5
  go_wp2_with fail
  refine haw.mono ?_
  rintro e w1 ⟨rfl, hw1⟩
  have B1 := Lib.hid hw1
  clear haw hw1
  by_cases h1 : 17000 < s.size
  · have h1i : (17000 : Int) < (s.size : Int) := by omega
    clear h1
    go_wp2
    go_ret
    exact ⟨rfl, B1.out⟩
  · have h1i : (s.size : Int) ≤ 17000 := by omega
    have hp0 := mparse_any s m w1 (by omega) (HM.out w1 B1.out)
    obtain ⟨⟨p, er⟩, hr⟩ : ∃ r, parseM s.data.toList = r := ⟨_, rfl⟩
    unfold ParsePostM at hp0
    rw [hr] at hp0
    obtain ⟨X, hX⟩ : ∃ X, textQ p.typ.1 = X := ⟨_, rfl⟩
    obtain ⟨Y, hY⟩ : ∃ Y, textQ p.typ.2.1 = Y := ⟨_, rfl⟩
    obtain ⟨D, hD⟩ : ∃ D, textQ p.body = D := ⟨_, rfl⟩
    have hp : Calls Tryz.prog 11 #[.string s] w1 fun e w' => ∃ a1 n1 c1 a2 n2 c2 a3 n3 c3, e = .returned (.tuple #[.agg #[.slice a1 n1 c1, .string X, .string Y, .slice a2 n2 c2, .string D, .slice a3 n3 c3], .int .i64 er]) ∧ Hid (TreeAt w' w'.heap.size p (.slice a1 n1 c1) (.slice a2 n2 c2) (.slice a3 n3 c3) ∧ Below w1.heap.size w1 w') := hp0.mono fun e w' ⟨fv, pv, rv, h1, h2, h3⟩ => by
      obtain ⟨⟨a1, n1, c1, rfl⟩, ⟨a2, n2, c2, rfl⟩, ⟨a3, n3, c3, rfl⟩⟩ := h2.slices
      exact ⟨a1, n1, c1, a2, n2, c2, a3, n3, c3, by rw [h1, ← hX, ← hY, ← hD]; rfl, Lib.hid ⟨h2.at, h3⟩⟩
    have hcnt : Hid (∀ W a1 n1 c1 a2 n2 c2 a3 n3 c3, countM p ≤ 1000000 → TreeAt W W.heap.size p (.slice a1 n1 c1) (.slice a2 n2 c2) (.slice a3 n3 c3) → Calls Tryz.prog 17 #[.agg #[.slice a1 n1 c1, .string X, .string Y, .slice a2 n2 c2, .string D, .slice a3 n3 c3]] W fun e w' => e = .returned (.int .i64 (countM p)) ∧ Below W.heap.size W w') := Lib.hid fun W a1 n1 c1 a2 n2 c2 a3 n3 c3 hc ht => by
      have := mcount_any W.heap.size p _ _ _ W ht (Nat.le_refl _) hc
      unfold partV at this
      rw [hX, hY, hD] at this
      exact this
    have hrt : Hid (∀ W a1 n1 c1 a2 n2 c2 a3 n3 c3, TreeAt W W.heap.size p (.slice a1 n1 c1) (.slice a2 n2 c2) (.slice a3 n3 c3) → Calls Tryz.prog 23 #[.agg #[.slice a1 n1 c1, .string X, .string Y, .slice a2 n2 c2, .string D, .slice a3 n3 c3], .int .i64 0] W fun e w' => e = .returned (.bool (rightM 0 p)) ∧ Below W.heap.size W w') := Lib.hid fun W a1 n1 c1 a2 n2 c2 a3 n3 c3 ht => by
      have := right13_any W.heap.size (countM p) p _ _ _ 0 W (Nat.le_refl _) (by omega) ht (Nat.le_refl _)
      unfold partV at this
      rw [hX, hY, hD] at this
      exact this
    have hsm : Hid (∀ W a1 n1 c1 a2 n2 c2 a3 n3 c3, TreeAt W W.heap.size p (.slice a1 n1 c1) (.slice a2 n2 c2) (.slice a3 n3 c3) → Calls Tryz.prog 13 #[.agg #[.slice a1 n1 c1, .string X, .string Y, .slice a2 n2 c2, .string D, .slice a3 n3 c3], .agg #[.slice none 0 0, .string ⟨#[]⟩, .string ⟨#[]⟩, .slice none 0 0, .string ⟨#[]⟩, .slice none 0 0]] W fun e w' => e = .returned (.bool (decide (p = nilM))) ∧ Below W.heap.size W w') := Lib.hid fun W a1 n1 c1 a2 n2 c2 a3 n3 c3 ht => by
      have := r13same_any W.heap.size (countM p) p (Nat.le_refl _) nilM _ _ _ (.slice none 0 0) (.slice none 0 0) (.slice none 0 0) W ht (TreeP.nil _ _) (Nat.le_refl _)
      unfold partV at this
      rw [hX, hY, hD] at this
      exact this
    have hgood : Hid (er = 0 → 1 ≤ countM p ∧ countM p ≤ 16 ∧ rightM 0 p = true) := Lib.hid fun h => by
      have hg := parse_good (s := s.data.toList) (by rw [hr]; exact h)
      rw [hr] at hg
      exact ⟨hg.1, hg.2.1, good_right 4 0 p rfl hg.2.2⟩
    have hbad : Hid (er ≠ 0 → decide (p = nilM) = true) := Lib.hid fun h => by
      have hg := tree_bad (s := s.data.toList) (by rw [hr]; exact h)
      rw [hr] at hg
      exact decide_eq_true hg
    clear hp0 hr hX hY hD h1 hs HM
    go_wp2_with fail
    refine hp.mono ?_
    rintro e w2 ⟨a1, n1, c1, a2, n2, c2, a3, n3, c3, rfl, hx⟩
    obtain ⟨w3, hw3⟩ : ∃ W, w2.alloc (.cells #[.slice a1 n1 c1, .string X, .string Y, .slice a2 n2 c2, .string D, .slice a3 n3 c3] 29) = W := ⟨_, rfl⟩
    have l3 : Below w2.heap.size w2 w3 := by rw [← hw3]; exact (Below.refl _ _).alloc (Nat.le_refl _) _
    have p3 : PrtAt w3 w2.heap.size (.slice a1 n1 c1) (.string X) (.string Y) (.slice a2 n2 c2) (.string D) (.slice a3 n3 c3) := by rw [← hw3]; exact prt_new w2 _ _ _ _ _ _
    obtain ⟨x0, x1, x2, x3, x4, x5, _⟩ := p3.cells
    have K3 : Hid (TreeAt w3 w3.heap.size p (.slice a1 n1 c1) (.slice a2 n2 c2) (.slice a3 n3 c3) ∧ Below w.heap.size w w3 ∧ PrtAt w3 w2.heap.size (.slice a1 n1 c1) (.string X) (.string Y) (.slice a2 n2 c2) (.string D) (.slice a3 n3 c3)) := Lib.hid (by
      obtain ⟨k1, k2⟩ := hx.out
      have b13 := k2.trans (l3.mono k2.size)
      exact ⟨(k1.below l3 (Nat.le_refl _)).up l3.size, B1.out.trans (b13.mono B1.out.size), p3⟩)
    clear hp hx l3 p3
    by_cases he : er = 0
    · subst he
      obtain ⟨g1, g2, g3⟩ := hgood.out rfl
      have hc := hcnt.out w3 _ _ _ _ _ _ _ _ _ (by omega) K3.out.1
      obtain ⟨n, hn⟩ : ∃ n, countM p = n := ⟨_, rfl⟩
      rw [hn] at hc g1 g2
      rw [g3] at hrt
      have hc1 : (1 : Int) ≤ (n : Int) := by omega
      have hc2 : (n : Int) ≤ 16 := by omega
      clear hgood hbad hsm hcnt g3 hn
      go_wp2_with fail
      refine hc.mono ?_
      rintro e w4 ⟨rfl, hb⟩
      have p4 := K3.out.2.2.below hb
      obtain ⟨y0, y1, y2, y3, y4, y5, _⟩ := p4.cells
      have hr4 := hrt.out w4 _ _ _ _ _ _ _ _ _ ((K3.out.1.below hb (Nat.le_refl _)).up hb.size)
      have B4 := Lib.hid (K3.out.2.1.trans (hb.mono K3.out.2.1.size))
      clear hc hb p4 hrt x0 x1 x2 x3 x4 x5
      go_wp2_with fail
      refine hr4.mono ?_
      rintro e w5 ⟨rfl, hb⟩
      have B5 := Lib.hid (B4.out.trans (hb.mono B4.out.size))
      clear hr4 hb
      go_wp2
      go_ret
      exact ⟨rfl, B5.out⟩
    · have hei : ((er : Int) != 0) = true := by simpa using he
      have hd := hbad.out he
      rw [hd] at hsm
      have h4 := hsm.out w3 _ _ _ _ _ _ _ _ _ K3.out.1
      clear hgood hbad hrt hcnt hd hsm
      go_wp2_with fail
      refine h4.mono ?_
      rintro e w4 ⟨rfl, hb⟩
      have B4 := Lib.hid (K3.out.2.1.trans (hb.mono K3.out.2.1.size))
      clear h4 hb
      go_wp2
      go_ret
      exact ⟨rfl, B4.out⟩
end Go.Proofs.YtidlpdiephlkhaaGreatDoor
