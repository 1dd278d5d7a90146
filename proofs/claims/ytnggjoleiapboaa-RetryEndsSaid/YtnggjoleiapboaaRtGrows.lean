/-
  RetryGrows returns true, for any turn and any time: the walk.
-/
import Derived.Test.YtnggjoleiapboaaAwake15
namespace Go.Proofs.Ytnggjoleiapboaa
open Go.RowKit Go.Maps

/-- What a failure comes to, case by case. -/
theorem fail_cases (b t d now : Int) : (readyT b t d now = false ∧ ∃ c, c ≠ 0 ∧ failT b t d now = ((0, 0, 0), false, c)) ∨
    (readyT b t d now = true ∧ (failT b t d now = ((0, 0, 0), false, 1) ∨ failT b t d now = ((0, 0, 0), true, 0) ∨
      (failT b t d now = ((b, t + 1, now + waitT t), false, 0) ∧ rightT b (t + 1) (now + waitT t) = true ∧ rightT b t d = true ∧ t ≠ 4 ∧ timeT now = true ∧ now + waitT t ≤ 1099511627776))) := by
  unfold readyT
  cases hr : rightT b t d with
  | false =>
    refine .inl ⟨rfl, 1, by decide, ?_⟩
    unfold failT
    rw [if_pos (.inl hr)]
  | true =>
    obtain ⟨⟨p1, p2⟩, ⟨p3, p4⟩, p5, p6, p7⟩ := right_of hr
    by_cases hd : d ≤ now
    · rw [decide_eq_true hd]
      refine .inr ⟨rfl, ?_⟩
      unfold failT
      rw [hr]
      cases hn : timeT now with
      | false => exact .inl (by rw [if_pos (.inr rfl)])
      | true =>
        rw [if_neg (by simp), if_neg (by omega)]
        obtain ⟨n1, n2⟩ := time_of hn
        by_cases hc : t = 4 ∨ 40 < now - b ∨ 1099511627776 < now + waitT t
        · rw [if_pos hc]
          exact .inr (.inl rfl)
        · rw [if_neg hc]
          refine .inr (.inr ⟨rfl, ?_, rfl, by omega, rfl, by omega⟩)
          have hw := wait_few p6 p7
          unfold rightT timeT
          simp only [Bool.and_eq_true, decide_eq_true_eq]
          omega
    · rw [decide_eq_false hd]
      refine .inl ⟨rfl, ?_⟩
      unfold failT
      rw [hr]
      cases hn : timeT now with
      | false => exact ⟨1, by decide, by rw [if_pos (.inr rfl)]⟩
      | true => exact ⟨9, by decide, by rw [if_neg (by simp), if_pos (by omega)]⟩
theorem wait_twice {t : Int} (h0 : 0 ≤ t) (h1 : t < 4) : waitT (t + 1) = 2 * waitT t := by
  rcases (show t = 0 ∨ t = 1 ∨ t = 2 ∨ t = 3 by omega) with rfl | rfl | rfl | rfl <;> decide

set_option maxRecDepth 100000 in
set_option maxHeartbeats 4000000 in
theorem rgrows_walk (b t d now : Int) (w : World) : Calls Try.prog 5 #[turnV b t d, .int .i64 now] w fun e w' => e = .returned (.bool true) ∧ Below w.heap.size w w' := by
  obtain ⟨w1, hw1⟩ : ∃ w1, w.alloc (.cells #[.int .i64 b, .int .i64 t, .int .i64 d] 23) = w1 := ⟨_, rfl⟩
  have t1 : TurnAt w1 w.heap.size b t d := by rw [← hw1]; exact turn_new w _ _ _
  have b1 : Below w.heap.size w w1 := by rw [← hw1]; exact (Below.refl _ _).alloc (Nat.le_refl _) _
  have ha := awake15_any w1
  have hf : Hid (∀ W, Calls Try.prog 8 #[turnV b t d, .int .i64 now] W fun e w' => e = .returned (failV (failT b t d now)) ∧ Below W.heap.size W w') := Lib.hid fun W => rfailed_any b t d now W
  have hr : Hid (∀ W, Calls Try.prog 15 #[turnV b t d, .int .i64 now] W fun e w' => e = .returned (.bool (readyT b t d now)) ∧ Below W.heap.size W w') := Lib.hid fun W => rready_any b t d now W
  have K1 := Lib.hid (And.intro t1 b1)
  rcases fail_cases b t d now with ⟨h1, c, hc, h2⟩ | ⟨h1, h2 | h2 | ⟨h2, h3, h4, h5, h6, h7⟩⟩
  · rw [h2] at hf
    rw [h1] at hr
    have hcc : ((c : Int) != 0) = true := by simpa using hc
    clear h1 h2 t1 b1
    go_enter Try.func5, Try.ntmps5
    go_wp2_with fail
    refine ha.mono ?_
    rintro e w2 ⟨rfl, hb⟩
    have K2 := Lib.hid (And.intro (K1.out.1.below hb) (K1.out.2.trans (hb.mono K1.out.2.size)))
    clear ha hb K1
    obtain ⟨c0, c1, c2, _⟩ := K2.out.1.cells
    go_wp2_with fail
    refine (hf.out _).mono ?_
    rintro e w3 ⟨rfl, hb⟩
    unfold failV turnW
    have hb' := hb.alloc hb.size (.cells #[.int .i64 0, .int .i64 0, .int .i64 0] 23)
    have K3 := Lib.hid (And.intro (K2.out.1.below hb') (And.intro (K2.out.2.trans (hb'.mono K2.out.2.size)) (by simp : w3.heap.size < (w3.alloc (.cells #[.int .i64 0, .int .i64 0, .int .i64 0] 23)).heap.size)))
    have N3 := Lib.hid (turn_new w3 0 0 0)
    clear hb hb' K2 c0 c1 c2
    obtain ⟨c0, c1, c2, _⟩ := K3.out.1.cells
    go_wp2_with fail
    refine (hr.out _).mono ?_
    rintro e w4 ⟨rfl, hb⟩
    have K4 := Lib.hid (And.intro (K3.out.1.below hb) (And.intro (N3.out.below hb) (And.intro (K3.out.2.1.trans (hb.mono K3.out.2.1.size)) hb.size)))
    have z34 : w3.heap.size < w4.heap.size := Nat.lt_of_lt_of_le K3.out.2.2 hb.size
    clear hb K3 N3 c0 c1 c2
    obtain ⟨d0, d1, d2, _⟩ := K4.out.2.1.cells
    have Fin := Lib.hid K4.out.2.2.1
    clear K4
    go_wp2
    go_ret
    exact ⟨rfl, Fin.out⟩
  · rw [h2] at hf
    rw [h1] at hr
    clear h1 h2 t1 b1
    go_enter Try.func5, Try.ntmps5
    go_wp2_with fail
    refine ha.mono ?_
    rintro e w2 ⟨rfl, hb⟩
    have K2 := Lib.hid (And.intro (K1.out.1.below hb) (K1.out.2.trans (hb.mono K1.out.2.size)))
    clear ha hb K1
    obtain ⟨c0, c1, c2, _⟩ := K2.out.1.cells
    go_wp2_with fail
    refine (hf.out _).mono ?_
    rintro e w3 ⟨rfl, hb⟩
    unfold failV turnW
    have hb' := hb.alloc hb.size (.cells #[.int .i64 0, .int .i64 0, .int .i64 0] 23)
    have K3 := Lib.hid (And.intro (K2.out.1.below hb') (And.intro (K2.out.2.trans (hb'.mono K2.out.2.size)) (by simp : w3.heap.size < (w3.alloc (.cells #[.int .i64 0, .int .i64 0, .int .i64 0] 23)).heap.size)))
    have N3 := Lib.hid (turn_new w3 0 0 0)
    clear hb hb' K2 c0 c1 c2
    obtain ⟨c0, c1, c2, _⟩ := K3.out.1.cells
    go_wp2_with fail
    refine (hr.out _).mono ?_
    rintro e w4 ⟨rfl, hb⟩
    have K4 := Lib.hid (And.intro (K3.out.1.below hb) (And.intro (N3.out.below hb) (And.intro (K3.out.2.1.trans (hb.mono K3.out.2.1.size)) hb.size)))
    have z34 : w3.heap.size < w4.heap.size := Nat.lt_of_lt_of_le K3.out.2.2 hb.size
    clear hb K3 N3 c0 c1 c2
    obtain ⟨d0, d1, d2, _⟩ := K4.out.2.1.cells
    have Fin := Lib.hid K4.out.2.2.1
    clear K4
    go_wp2
    go_ret
    exact ⟨rfl, Fin.out⟩
  · rw [h2] at hf
    rw [h1] at hr
    clear h1 h2 t1 b1
    go_enter Try.func5, Try.ntmps5
    go_wp2_with fail
    refine ha.mono ?_
    rintro e w2 ⟨rfl, hb⟩
    have K2 := Lib.hid (And.intro (K1.out.1.below hb) (K1.out.2.trans (hb.mono K1.out.2.size)))
    clear ha hb K1
    obtain ⟨c0, c1, c2, _⟩ := K2.out.1.cells
    go_wp2_with fail
    refine (hf.out _).mono ?_
    rintro e w3 ⟨rfl, hb⟩
    unfold failV turnW
    have hb' := hb.alloc hb.size (.cells #[.int .i64 0, .int .i64 0, .int .i64 0] 23)
    have K3 := Lib.hid (And.intro (K2.out.1.below hb') (And.intro (K2.out.2.trans (hb'.mono K2.out.2.size)) (by simp : w3.heap.size < (w3.alloc (.cells #[.int .i64 0, .int .i64 0, .int .i64 0] 23)).heap.size)))
    have N3 := Lib.hid (turn_new w3 0 0 0)
    clear hb hb' K2 c0 c1 c2
    obtain ⟨c0, c1, c2, _⟩ := K3.out.1.cells
    go_wp2_with fail
    refine (hr.out _).mono ?_
    rintro e w4 ⟨rfl, hb⟩
    have K4 := Lib.hid (And.intro (K3.out.1.below hb) (And.intro (N3.out.below hb) (And.intro (K3.out.2.1.trans (hb.mono K3.out.2.1.size)) hb.size)))
    have z34 : w3.heap.size < w4.heap.size := Nat.lt_of_lt_of_le K3.out.2.2 hb.size
    clear hb K3 N3 c0 c1 c2
    obtain ⟨d0, d1, d2, _⟩ := K4.out.2.1.cells
    have Fin := Lib.hid K4.out.2.2.1
    clear K4
    go_wp2
    go_ret
    exact ⟨rfl, Fin.out⟩
  · rw [h2] at hf
    rw [h1] at hr
    obtain ⟨n1, n2⟩ := time_of h6
    obtain ⟨⟨p1, p2⟩, ⟨p3, p4⟩, p5, p6, p7⟩ := right_of h4
    have hw := wait_few p6 p7
    have hw2 := wait_twice p6 (by omega)
    have hg : Hid (∀ W, Calls Try.prog 8 #[turnV b (t + 1) (now + waitT t), .int .i64 (now + waitT t)] W fun e w' => ∃ (x0 x1 x2 : Int) (o : Bool), e = .returned (.tuple #[turnV x0 x1 x2, .bool o, .int .i64 0]) ∧ (o = true ∨ x2 = now + waitT t + 2 * waitT t) ∧ Below W.heap.size W w') := Lib.hid fun W => by
      refine (rfailed_any b (t + 1) (now + waitT t) (now + waitT t) W).mono fun e w' ⟨e1, e2⟩ => ?_
      rw [fail_v] at e1
      obtain ⟨q1, q2⟩ := fail_right h3
      rw [q1] at e1
      refine ⟨_, _, _, _, e1, ?_, e2⟩
      rcases fail_cases b (t + 1) (now + waitT t) (now + waitT t) with ⟨_, c, hc, h⟩ | ⟨_, h | h | ⟨h, _⟩⟩
      · rw [h] at q1
        exact absurd q1 hc
      · rw [h] at q1
        exact absurd q1 (by decide)
      · rw [h]
        exact .inl rfl
      · rw [h, hw2]
        exact .inr rfl
    obtain ⟨wt, hwt⟩ : ∃ x, waitT t = x := ⟨_, rfl⟩
    rw [hwt] at hw hf hg h7
    clear h1 h2 t1 b1 h3 h4 h6 hw2 hwt
    go_enter Try.func5, Try.ntmps5
    go_wp2_with fail
    refine ha.mono ?_
    rintro e w2 ⟨rfl, hb⟩
    have K2 := Lib.hid (And.intro (K1.out.1.below hb) (K1.out.2.trans (hb.mono K1.out.2.size)))
    clear ha hb K1
    obtain ⟨c0, c1, c2, _⟩ := K2.out.1.cells
    go_wp2_with fail
    refine (hf.out _).mono ?_
    rintro e w3 ⟨rfl, hb⟩
    unfold failV turnW
    have hb' := hb.alloc hb.size (.cells #[.int .i64 b, .int .i64 (t + 1), .int .i64 (now + wt)] 23)
    have K3 := Lib.hid (And.intro (K2.out.1.below hb') (And.intro (K2.out.2.trans (hb'.mono K2.out.2.size)) (by simp : w3.heap.size < (w3.alloc (.cells #[.int .i64 b, .int .i64 (t + 1), .int .i64 (now + wt)] 23)).heap.size)))
    have N3 := Lib.hid (turn_new w3 b (t + 1) (now + wt))
    clear hb hb' K2 c0 c1 c2
    obtain ⟨c0, c1, c2, _⟩ := K3.out.1.cells
    go_wp2_with fail
    refine (hr.out _).mono ?_
    rintro e w4 ⟨rfl, hb⟩
    have K4 := Lib.hid (And.intro (K3.out.1.below hb) (And.intro (N3.out.below hb) (And.intro (K3.out.2.1.trans (hb.mono K3.out.2.1.size)) hb.size)))
    have z34 : w3.heap.size < w4.heap.size := Nat.lt_of_lt_of_le K3.out.2.2 hb.size
    clear hb K3 N3 c0 c1 c2
    obtain ⟨d0, d1, d2, _⟩ := K4.out.2.1.cells
    have K4' := K4
    clear K4
    go_wp2_with fail
    refine (hg.out _).mono ?_
    rintro e w5 ⟨x0, x1, x2, o, rfl, ho, hb⟩
    have hb' := hb.alloc hb.size (.cells #[.int .i64 x0, .int .i64 x1, .int .i64 x2] 23)
    have r5 := K4'.out.1.below hb'
    have u5 := K4'.out.2.1.below hb'
    have v5 := turn_new w5 x0 x1 x2
    obtain ⟨a0, a1, a2, _⟩ := r5.cells
    obtain ⟨e0, e1, e2, _⟩ := u5.cells
    obtain ⟨g0, g1, g2, _⟩ := v5.cells
    have Fin := Lib.hid (K4'.out.2.2.1.trans (hb'.mono K4'.out.2.2.1.size))
    clear hb hb' r5 u5 v5 K4' hg d0 d1 d2
    cases o with
    | true =>
      clear ho
      go_wp2
      go_ret
      exact ⟨rfl, Fin.out⟩
    | false =>
      have hx : x2 = now + wt + 2 * wt := ho.resolve_left (by simp)
      subst hx
      clear ho
      go_wp2
      go_ret
      exact ⟨by rw [show (now + wt + 2 * wt - (now + wt) == 2 * (now + wt - now)) = true from beq_iff_eq.2 (by omega)]; rfl, Fin.out⟩
end Go.Proofs.Ytnggjoleiapboaa
