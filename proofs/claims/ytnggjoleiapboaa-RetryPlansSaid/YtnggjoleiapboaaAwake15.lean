/-
  Answers of layer 15 that the document fixes: what awake comes to.
-/
import Derived.Test.YtnggjoleiapboaaRtG
namespace Go.Proofs.Ytnggjoleiapboaa
open Go.RowKit Go.Maps

theorem TimesOwn.cells {w : World} {B : Nat} {ao : Option Addr} {nn cap : Nat} {l : List Int} (h : TimesOwn w B (.slice ao nn cap) l) (i : Nat) (hi : i < l.length) : ∃ g, ao = some ⟨g, 0, none⟩ ∧ B ≤ g ∧ nn = l.length ∧ nn ≤ cap ∧ cap ≤ maxLen ∧ w.cell? ⟨g, i, none⟩ = some (.int .i64 l[i]) := by
  obtain ⟨_, h2⟩ := h
  rcases h2 with ⟨e, h0⟩ | ⟨g, cap2, cur, e, hg, hb, hc, hm, hs, ht⟩
  · omega
  · cases e
    refine ⟨g, rfl, hg, rfl, hc, hm, ?_⟩
    rw [Lib.cell_of_heap hb i]
    have hx : (timeCells l)[i]? = some (.int .i64 l[i]) := by
      unfold timeCells
      rw [List.getElem?_map, List.getElem?_eq_getElem hi]
      rfl
    rw [← hx, ← ht, List.getElem?_take_of_lt (by omega)]
    simp
theorem TimesOwn.len {w : World} {B : Nat} {ao : Option Addr} {nn cap : Nat} {l : List Int} (h : TimesOwn w B (.slice ao nn cap) l) : nn = l.length ∧ nn ≤ cap ∧ cap ≤ maxLen := by
  obtain ⟨_, h2⟩ := h
  rcases h2 with ⟨e, h0⟩ | ⟨g, cap2, cur, e, hg, hb, hc, hm, hs, ht⟩
  · cases e
    exact ⟨h0.symm, Nat.le_refl _, by simp [maxLen]⟩
  · cases e
    exact ⟨rfl, hc, hm⟩
theorem TimesOwn.below {w w' : World} {B : Nat} {v : Value} {l : List Int} (h : TimesOwn w B v l) (hb : Below w.heap.size w w') : TimesOwn w' B v l := (Turned.of_below (S := fun _ => False) hb (Nat.le_refl _)).row h (fun _ _ => id)
theorem newV_yes {n : Int} (h : timeT n = true) (w : World) : Calls Try.prog 10 #[.int .i64 n] w fun e w' => e = .returned (.tuple #[turnV n 0 n, .int .i64 0]) ∧ Below w.heap.size w w' := by
  have := rnew_any n w
  rw [h] at this
  exact this
theorem rplan_row (now : Int) (w : World) : Calls Try.prog 11 #[.int .i64 now] w fun r w' => ∃ ao cap, r = .returned (.slice ao (planT now).length cap) ∧ TimesOwn w' w.heap.size (.slice ao (planT now).length cap) (planT now) ∧ Below w.heap.size w w' := (rplan_any now w).mono fun r w' ⟨v, h1, h2, h3⟩ => by
  obtain ⟨ao, cap, rfl⟩ := row_slice h2
  exact ⟨ao, cap, h1, h2, h3⟩

set_option maxRecDepth 100000 in
set_option maxHeartbeats 4000000 in
theorem awake15_any (w : World) : Calls Try.prog 7 #[] w fun e w' => e = .returned (.bool true) ∧ Below w.heap.size w w' := by
  have h1 := newV_yes (show timeT 5 = true by decide) w
  have h2 : ∀ W, Calls Try.prog 8 #[turnV 5 0 5, .int .i64 6] W fun e w' => e = .returned (.tuple #[turnV 5 1 8, .bool false, .int .i64 0]) ∧ Below W.heap.size W w' := fun W => rfailed_any 5 0 5 6 W
  have h3 : ∀ W, Calls Try.prog 8 #[turnV 5 0 5, .int .i64 4] W fun e w' => e = .returned (.tuple #[turnV 0 0 0, .bool false, .int .i64 9]) ∧ Below W.heap.size W w' := fun W => rfailed_any 5 0 5 4 W
  have hp : planT 0 = [0, 2, 6, 14, 30] := by decide
  have h4 : ∀ W, Calls Try.prog 11 #[.int .i64 0] W fun r w' => ∃ ao cap, r = .returned (.slice ao 5 cap) ∧ TimesOwn w' W.heap.size (.slice ao 5 cap) [0, 2, 6, 14, 30] ∧ Below W.heap.size W w' := fun W => by
    have := rplan_row 0 W
    rw [hp] at this
    exact this
  have h5 : ∀ W, Calls Try.prog 15 #[turnV 5 1 8, .int .i64 8] W fun e w' => e = .returned (.bool true) ∧ Below W.heap.size W w' := fun W => rready_any 5 1 8 8 W
  have h6 : ∀ W, Calls Try.prog 15 #[turnV 5 1 8, .int .i64 7] W fun e w' => e = .returned (.bool false) ∧ Below W.heap.size W w' := fun W => rready_any 5 1 8 7 W
  have h7 : ∀ W, Calls Try.prog 13 #[turnV 5 1 8] W fun e w' => e = .returned (.bool true) ∧ Below W.heap.size W w' := fun W => rright_any 5 1 8 W
  clear hp
  go_enter Try.func7, Try.ntmps7
  go_wp2_with fail
  refine h1.mono ?_
  rintro e w1 ⟨rfl, hb1⟩
  obtain ⟨w2, hw2⟩ : ∃ w2, w1.alloc (.cells #[.int .i64 5, .int .i64 0, .int .i64 5] 23) = w2 := ⟨_, rfl⟩
  have b12 : Below w1.heap.size w1 w2 := by rw [← hw2]; exact (Below.refl _ _).alloc (Nat.le_refl _) _
  have t2 : TurnAt w2 w1.heap.size 5 0 5 := by rw [← hw2]; exact turn_new w1 _ _ _
  have K2 := Lib.hid (And.intro t2 (hb1.trans (b12.mono hb1.size)))
  obtain ⟨c0, c1, c2, _⟩ := t2.cells
  clear h1 hb1 b12 t2
  go_wp2_with fail
  refine (h2 _).mono ?_
  rintro e w3 ⟨rfl, hb3⟩
  obtain ⟨w4, hw4⟩ : ∃ w4, w3.alloc (.cells #[.int .i64 5, .int .i64 1, .int .i64 8] 23) = w4 := ⟨_, rfl⟩
  have b34 : Below w3.heap.size w3 w4 := by rw [← hw4]; exact (Below.refl _ _).alloc (Nat.le_refl _) _
  have b24 : Below w2.heap.size w2 w4 := hb3.trans (b34.mono hb3.size)
  have t4 : TurnAt w4 w3.heap.size 5 1 8 := by rw [← hw4]; exact turn_new w3 _ _ _
  have K4 := Lib.hid (And.intro (K2.out.1.below b24) (And.intro t4 (K2.out.2.trans (b24.mono K2.out.2.size))))
  clear c0 c1 c2 hb3 b34 b24 t4 K2
  obtain ⟨c0, c1, c2, _⟩ := K4.out.1.cells
  go_wp2_with fail
  refine (h3 _).mono ?_
  rintro e w5 ⟨rfl, hb5⟩
  have b46 : Below w4.heap.size w4 (w5.alloc (.cells #[.int .i64 0, .int .i64 0, .int .i64 0] 23)) := hb5.alloc hb5.size _
  have K6 := Lib.hid (And.intro (K4.out.1.below b46) (And.intro (K4.out.2.1.below b46) (K4.out.2.2.trans (b46.mono K4.out.2.2.size))))
  clear c0 c1 c2 hb5 b46 K4
  go_wp2_with fail
  refine (h4 _).mono ?_
  rintro e w7 ⟨ao, cap, rfl, ho, hb7⟩
  obtain ⟨g, rfl, hg, _, hc1, hc2, hcell⟩ := ho.cells 4 (by decide)
  unfold maxLen at hc2
  replace hcell : w7.cell? ⟨g, 4, none⟩ = some (.int .i64 30) := hcell
  have K7 := Lib.hid (And.intro (K6.out.1.below hb7) (And.intro (K6.out.2.1.below hb7) (K6.out.2.2.trans (hb7.mono K6.out.2.2.size))))
  obtain ⟨c0, c1, c2, _⟩ := K7.out.1.cells
  obtain ⟨d0, d1, d2, _⟩ := K7.out.2.1.cells
  clear ho hb7 K6 hg
  go_wp2_with fail
  refine (h5 _).mono ?_
  rintro e w8 ⟨rfl, hb8⟩
  have K8 := Lib.hid (And.intro (K7.out.2.1.below hb8) (K7.out.2.2.trans (hb8.mono K7.out.2.2.size)))
  clear c0 c1 c2 d0 d1 d2 hb8 K7 hcell
  obtain ⟨d0, d1, d2, _⟩ := K8.out.1.cells
  go_wp2_with fail
  refine (h6 _).mono ?_
  rintro e w9 ⟨rfl, hb9⟩
  have K9 := Lib.hid (And.intro (K8.out.1.below hb9) (K8.out.2.trans (hb9.mono K8.out.2.size)))
  clear d0 d1 d2 hb9 K8
  obtain ⟨d0, d1, d2, _⟩ := K9.out.1.cells
  go_wp2_with fail
  refine (h7 _).mono ?_
  rintro e w10 ⟨rfl, hb10⟩
  have Fin := Lib.hid (K9.out.2.trans (hb10.mono K9.out.2.size))
  clear hb10 K9
  go_wp2
  go_ret
  exact ⟨rfl, Fin.out⟩
end Go.Proofs.Ytnggjoleiapboaa
