/-
  AddrNames, gone through.
-/
import Derived.Test.YtemkikpdmihmpaaDoorAwake11
import Derived.Test.YtemkikpdmihmpaaDoorA11B
namespace Go.Proofs.YtemkikpdmihmpaaDoor
open Go.RowKit

theorem print_one (a : AddrA) : printA [a] = if rightA a = true then (addrTextA a, 0) else ([], 2) := by
  unfold printA
  cases h : rightA a with
  | true => rw [if_neg (by simp [h]), if_neg (by simp), if_pos rfl, listTextA, moreTextA]; simp
  | false => rw [if_pos (by simp [h]), if_neg (by simp)]
theorem text_self (s : ByteArray) : textQ s.data.toList = s := rfl

set_option maxRecDepth 100000 in
set_option maxHeartbeats 8000000 in
theorem anames_walk (s0 s1 s2 : ByteArray) (m : Int) (w : World) (hm : w.cell? ⟨0, 0, none⟩ = some (.int .i64 m)) (hs0 : s0.size ≤ maxLen) (hs1 : s1.size ≤ maxLen) (hs2 : s2.size ≤ maxLen) :
    Calls Tryd.prog 4 #[.string s0, .string s1, .string s2] w fun e w' => e = .returned (.bool true) ∧ Below w.heap.size w w' := by
  unfold maxLen at hs0 hs1 hs2
  have haw := awake11_any m w hm
  by_cases g0 : 200 < s0.size
  · go_enter Tryd.func4, Tryd.ntmps4
    go_wp2_with (go_at_call 5; refine haw.mono ?_; rintro e w1 ⟨rfl, hw1⟩)
    go_ret
    exact ⟨rfl, hw1⟩
  by_cases g1 : 200 < s1.size
  · go_enter Tryd.func4, Tryd.ntmps4
    go_wp2_with (go_at_call 5; refine haw.mono ?_; rintro e w1 ⟨rfl, hw1⟩)
    go_ret
    exact ⟨rfl, hw1⟩
  by_cases g2 : 200 < s2.size
  · go_enter Tryd.func4, Tryd.ntmps4
    go_wp2_with (go_at_call 5; refine haw.mono ?_; rintro e w1 ⟨rfl, hw1⟩)
    go_ret
    exact ⟨rfl, hw1⟩
  have l0 : s0.data.toList.length = s0.size := rfl
  have l1 : s1.data.toList.length = s1.size := rfl
  have l2 : s2.data.toList.length = s2.size := rfl
  obtain ⟨a, ha⟩ : ∃ a : AddrA, (s0.data.toList, s1.data.toList, s2.data.toList) = a := ⟨_, rfl⟩
  have hpr : Hid (∀ W B, AddrsAt W W.heap.size (.slice (some ⟨B, 0, none⟩) 1 1) [a] → Calls Tryd.prog 7 #[.slice (some ⟨B, 0, none⟩) 1 1] W fun e w' => e = .returned (.tuple #[.string (textQ (printA [a]).1), .int .i64 (printA [a]).2]) ∧ Below W.heap.size W w') := Lib.hid fun W B h => aprint_any W.heap.size _ [a] W h (Nat.le_refl _)
  have hat : Hid (∀ W B, AddrAt W B s0 s1 s2 → AddrsAt W W.heap.size (.slice (some ⟨B, 0, none⟩) 1 1) [a]) := Lib.hid fun W B h => by
    obtain ⟨c0, c1, c2, _⟩ := h.cells
    refine ⟨_, 1, rfl, Nat.le_refl _, by decide, fun i hi => ⟨B, 0, rfl, h.lt, ?_⟩⟩
    obtain rfl : i = 0 := by simpa using hi
    subst ha
    exact ⟨c0, c1, c2⟩
  have hrt := fun W => aright_any a W
  have hav : addrV a = .agg #[.string s0, .string s1, .string s2] := by rw [← ha]; rfl
  rw [hav] at hrt
  have h200 := Lib.hid (And.intro g0 (And.intro g1 g2))
  cases hr : rightA a with
  | false =>
    rw [hr] at hrt
    have hp1 : printA [a] = ([], 2) := by rw [print_one, hr, if_neg (by simp)]
    rw [hp1] at hpr
    have hpr2 : Hid (∀ W B, AddrsAt W W.heap.size (.slice (some ⟨B, 0, none⟩) 1 1) [a] → Calls Tryd.prog 7 #[.slice (some ⟨B, 0, none⟩) 1 1] W fun e w' => e = .returned (.tuple #[.string ⟨#[]⟩, .int .i64 2]) ∧ Below W.heap.size W w') := hpr
    clear ha hav hr hp1 l0 l1 l2 hpr
    go_enter Tryd.func4, Tryd.ntmps4
    go_wp2_with fail
    refine haw.mono ?_
    rintro e w1 ⟨rfl, hw1⟩
    obtain ⟨w2, hw2⟩ : ∃ w2, w1.alloc (.cells #[.string s0, .string s1, .string s2] 37) = w2 := ⟨_, rfl⟩
    have n2 : AddrAt w2 w1.heap.size s0 s1 s2 := by rw [← hw2]; exact addr_new w1 _ _ _
    have l2 : Below w1.heap.size w1 w2 := by rw [← hw2]; exact (Below.refl _ _).alloc (Nat.le_refl _) _
    obtain ⟨w3, hw3⟩ : ∃ w3, w2.alloc (.cells #[.string s0, .string s1, .string s2] 37) = w3 := ⟨_, rfl⟩
    have n3 : AddrAt w3 w2.heap.size s0 s1 s2 := by rw [← hw3]; exact addr_new w2 _ _ _
    have l3 : Below w2.heap.size w2 w3 := by rw [← hw3]; exact (Below.refl _ _).alloc (Nat.le_refl _) _
    obtain ⟨c0, c1, c2, c3, c4, c5⟩ := id n2.cells
    have hpc := hpr2.out w3 _ (hat.out w3 _ n3)
    have N3 := Lib.hid (n2.below l3)
    have B3 := Lib.hid ((hw1.trans (l2.mono hw1.size)).trans (l3.mono (Nat.le_trans hw1.size l2.size)))
    clear haw hw1 n2 l2 n3 l3 hpr2 hat
    go_wp2_with fail
    refine hpc.mono ?_
    rintro e w4 ⟨rfl, hw4⟩
    obtain ⟨d0, d1, d2, _⟩ := (N3.out.below hw4).cells
    have B4 := Lib.hid (B3.out.trans (hw4.mono B3.out.size))
    clear hpc hw4
    go_wp2_with fail
    refine (hrt _).mono ?_
    rintro e w5 ⟨rfl, hw5⟩
    go_wp2
    go_ret
    exact ⟨rfl, B4.out.trans (hw5.mono B4.out.size)⟩
  | true =>
    rw [hr] at hrt
    have hp1 : printA [a] = (addrTextA a, 0) := by rw [print_one, hr, if_pos rfl]
    rw [hp1] at hpr
    obtain ⟨T, hT⟩ : ∃ T, textQ (addrTextA a) = T := ⟨_, rfl⟩
    have hpr2 : Hid (∀ W B, AddrsAt W W.heap.size (.slice (some ⟨B, 0, none⟩) 1 1) [a] → Calls Tryd.prog 7 #[.slice (some ⟨B, 0, none⟩) 1 1] W fun e w' => e = .returned (.tuple #[.string T, .int .i64 0]) ∧ Below W.heap.size W w') := Lib.hid fun W B h => by
      have := hpr.out W B h
      simp only [hT] at this
      exact this
    have hps : Hid (∀ W, Calls Tryd.prog 10 #[.string T] W fun e w' => ∃ g cap, e = .returned (.tuple #[.slice (some ⟨g, 0, none⟩) 1 cap, .int .i64 0]) ∧ w'.cell? ⟨g, 0, none⟩ = some (.string s0) ∧ w'.cell? ⟨g, 1, none⟩ = some (.string s1) ∧ w'.cell? ⟨g, 2, none⟩ = some (.string s2) ∧ g < w'.heap.size ∧ Below W.heap.size W w') := Lib.hid fun W => by
      refine (aparse_any T W).mono ?_
      rintro e w' ⟨v, rfl, hown, hb⟩
      rw [show parseA T.data.toList = ([a], 0) by rw [← hT]; exact addr_back a hr] at hown ⊢
      obtain ⟨ao, cap, rfl, h1, h2, h3⟩ := AddrsOwn.at hown
      rcases hown.2 with ⟨e, _⟩ | ⟨g, cap', cur, e, hg1, hg2, hg3⟩
      · cases e
      · cases e
        obtain ⟨g', off', e', q1, q2, q3, q4⟩ := h3 0 (by simp)
        cases e'
        subst ha
        exact ⟨g, cap, rfl, q2, q3, q4, heap_lt hg2, hb⟩
    obtain ⟨P, hP⟩ : ∃ P, s1 ++ (⟨#[64]⟩ : ByteArray) ++ s2 = P := ⟨_, rfl⟩
    have hPd : P.data.toList = s1.data.toList ++ 64 :: s2.data.toList := by
      rw [← hP, ByteArray.data_append, ByteArray.data_append, Array.toList_append, Array.toList_append]
      simp
    have hPs : P.size ≤ 401 := by
      have e : P.size = P.data.toList.length := rfl
      rw [e, hPd, List.length_append, List.length_cons, l1, l2]
      omega
    have hml : Hid (∀ W, Below w.heap.size w W → Calls Tryd.prog 12 #[.string P] W fun e w' => e = .returned (.tuple #[.agg #[.string ⟨#[]⟩, .string s1, .string s2], .int .i64 0]) ∧ Below W.heap.size W w') := Lib.hid fun W hW => by
      have := amail_any P m W (by omega) (bound_abideA hm hW)
      rw [hPd, mail_back s0.data.toList s1.data.toList s2.data.toList (by rw [ha]; exact hr)] at this
      exact this
    have k1 : ¬ 9223372036854775807 < s1.size + 1 := by omega
    have k2 : ¬ 9223372036854775807 < s1.size + 1 + s2.size := by omega
    clear ha hav hr hp1 l0 l1 l2 hT hPd hPs hpr
    go_enter Tryd.func4, Tryd.ntmps4
    go_wp2_with fail
    refine haw.mono ?_
    rintro e w1 ⟨rfl, hw1⟩
    obtain ⟨w2, hw2⟩ : ∃ w2, w1.alloc (.cells #[.string s0, .string s1, .string s2] 37) = w2 := ⟨_, rfl⟩
    have n2 : AddrAt w2 w1.heap.size s0 s1 s2 := by rw [← hw2]; exact addr_new w1 _ _ _
    have l2 : Below w1.heap.size w1 w2 := by rw [← hw2]; exact (Below.refl _ _).alloc (Nat.le_refl _) _
    obtain ⟨w3, hw3⟩ : ∃ w3, w2.alloc (.cells #[.string s0, .string s1, .string s2] 37) = w3 := ⟨_, rfl⟩
    have n3 : AddrAt w3 w2.heap.size s0 s1 s2 := by rw [← hw3]; exact addr_new w2 _ _ _
    have l3 : Below w2.heap.size w2 w3 := by rw [← hw3]; exact (Below.refl _ _).alloc (Nat.le_refl _) _
    obtain ⟨c0, c1, c2, c3, c4, c5⟩ := id n2.cells
    have hpc := hpr2.out w3 _ (hat.out w3 _ n3)
    have N3 := Lib.hid (n2.below l3)
    have B3 := Lib.hid ((hw1.trans (l2.mono hw1.size)).trans (l3.mono (Nat.le_trans hw1.size l2.size)))
    clear haw hw1 n2 l2 n3 l3 hpr2 hat
    go_wp2_with fail
    refine hpc.mono ?_
    rintro e w4 ⟨rfl, hw4⟩
    have n4 := N3.out.below hw4
    obtain ⟨d0, d1, d2, _⟩ := id n4.cells
    have N4 := Lib.hid n4
    have B4 := Lib.hid (B3.out.trans (hw4.mono B3.out.size))
    clear hpc hw4 n4 N3 B3
    go_wp2_with fail
    refine (hrt _).mono ?_
    rintro e w5 ⟨rfl, hw5⟩
    have N5 := Lib.hid (N4.out.below hw5)
    have B5 := Lib.hid (B4.out.trans (hw5.mono B4.out.size))
    have hps5 := hps.out w5
    clear hrt hw5 N4 B4 hps
    go_wp2_with fail
    refine hps5.mono ?_
    rintro e w6 ⟨g, cap, rfl, y0, y1, y2, hg, hw6⟩
    have N6 := Lib.hid (N5.out.below hw6)
    have B6 := Lib.hid (B5.out.trans (hw6.mono B5.out.size))
    have Y6 := Lib.hid (And.intro y0 (And.intro y1 (And.intro y2 hg)))
    have hml6 := hml.out w6 B6.out
    clear hps5 hw6 N5 B5 y0 y1 y2 hg hml
    go_wp2_with fail
    refine hml6.mono ?_
    rintro e w7 ⟨rfl, hw7⟩
    obtain ⟨w8, hw8⟩ : ∃ w8, w7.alloc (.cells #[.string ⟨#[]⟩, .string s1, .string s2] 37) = w8 := ⟨_, rfl⟩
    have n8 : AddrAt w8 w7.heap.size ⟨#[]⟩ s1 s2 := by rw [← hw8]; exact addr_new w7 _ _ _
    have l8 : Below w6.heap.size w6 w8 := by rw [← hw8]; exact hw7.alloc hw7.size _
    obtain ⟨y0, y1, y2, hg⟩ := Y6.out
    have x0 := (l8.cell (p := ⟨g, 0, none⟩) hg).trans y0
    have x1 := (l8.cell (p := ⟨g, 1, none⟩) hg).trans y1
    have x2 := (l8.cell (p := ⟨g, 2, none⟩) hg).trans y2
    obtain ⟨z0, z1, z2, _⟩ := (N6.out.below l8).cells
    obtain ⟨u0, u1, u2, u3, u4, u5⟩ := n8.cells
    have B8 := Lib.hid (B6.out.trans (l8.mono B6.out.size))
    clear hml6 hw7 n8 l8 N6 B6 Y6 y0 y1 y2 hg
    clear c0 c1 c2 c3 c4 c5 d0 d1 d2 hw2 hw3 g0 g1 g2
    go_wp2_with fail
    go_quiet (fail)
    have b9 := below_drewN B8.out nq
    go_wp2
    go_ret
    exact ⟨rfl, b9⟩
end Go.Proofs.YtemkikpdmihmpaaDoor
