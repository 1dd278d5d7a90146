/-
  The document's answer of layer 15: right turns, a try that failed.
-/
import Derived.Test.YtnggjoleiapboaaRtD
namespace Go.Proofs.Ytnggjoleiapboaa
open Go.RowKit Go.Maps

set_option maxRecDepth 100000 in
theorem r15time_any (n : Int) (w : World) : Calls Try.prog 17 #[.int .i64 n] w fun e w' => e = .returned (.bool (timeT n)) ∧ w' = w := by
  unfold timeT
  by_cases h0 : 0 ≤ n
  · by_cases h1 : n ≤ 1099511627776
    · rw [decide_eq_true h0, decide_eq_true h1]
      go_enter Try.func17, Try.ntmps17
      go_wp2
      go_ret
      exact ⟨rfl, rfl⟩
    · rw [decide_eq_true h0, decide_eq_false h1]
      go_enter Try.func17, Try.ntmps17
      go_wp2
      go_ret
      exact ⟨rfl, rfl⟩
  · rw [decide_eq_false h0]
    go_enter Try.func17, Try.ntmps17
    go_wp2
    go_ret
    exact ⟨rfl, rfl⟩
theorem r15time_at {n : Int} {b : Bool} (h : timeT n = b) (w : World) : Calls Try.prog 17 #[.int .i64 n] w fun e w' => e = .returned (.bool b) ∧ w' = w := h ▸ r15time_any n w

set_option maxRecDepth 100000 in
theorem r15right_any (b t d : Int) (w : World) : Calls Try.prog 14 #[turnV b t d] w fun e w' => e = .returned (.bool (rightT b t d)) ∧ Below w.heap.size w w' := by
  unfold rightT
  rw [show decide (t < 5) = decide (t ≤ 4) from decide_eq_decide.2 (by omega)]
  have hb := r15time_any b
  have hd := r15time_any d
  obtain ⟨p, hp⟩ : ∃ p, timeT b = p := ⟨_, rfl⟩
  obtain ⟨q, hq⟩ : ∃ q, timeT d = q := ⟨_, rfl⟩
  rw [hp] at hb ⊢
  rw [hq] at hd ⊢
  clear hp hq
  cases p with
  | false =>
    go_enter Try.func14, Try.ntmps14
    go_wp2_with (go_at_call 17; refine (hb _).mono ?_; rintro e w' ⟨rfl, rfl⟩)
    go_ret
    exact ⟨rfl, (Below.refl _ _).alloc (Nat.le_refl _) _⟩
  | true =>
    cases q with
    | false =>
      go_enter Try.func14, Try.ntmps14
      go_wp2_with fail
      refine (hb _).mono ?_
      rintro e w' ⟨rfl, rfl⟩
      go_wp2_with fail
      refine (hd _).mono ?_
      rintro e w' ⟨rfl, rfl⟩
      go_wp2
      go_ret
      exact ⟨rfl, (Below.refl _ _).alloc (Nat.le_refl _) _⟩
    | true =>
      by_cases h1 : b ≤ d
      · by_cases h2 : 0 ≤ t
        · rw [decide_eq_true h1, decide_eq_true h2]
          go_enter Try.func14, Try.ntmps14
          go_wp2_with fail
          refine (hb _).mono ?_
          rintro e w' ⟨rfl, rfl⟩
          go_wp2_with fail
          refine (hd _).mono ?_
          rintro e w' ⟨rfl, rfl⟩
          go_wp2
          go_ret
          exact ⟨rfl, (Below.refl _ _).alloc (Nat.le_refl _) _⟩
        · rw [decide_eq_true h1, decide_eq_false h2]
          go_enter Try.func14, Try.ntmps14
          go_wp2_with fail
          refine (hb _).mono ?_
          rintro e w' ⟨rfl, rfl⟩
          go_wp2_with fail
          refine (hd _).mono ?_
          rintro e w' ⟨rfl, rfl⟩
          go_wp2
          go_ret
          exact ⟨rfl, (Below.refl _ _).alloc (Nat.le_refl _) _⟩
      · rw [decide_eq_false h1]
        go_enter Try.func14, Try.ntmps14
        go_wp2_with fail
        refine (hb _).mono ?_
        rintro e w' ⟨rfl, rfl⟩
        go_wp2_with fail
        refine (hd _).mono ?_
        rintro e w' ⟨rfl, rfl⟩
        go_wp2
        go_ret
        exact ⟨rfl, (Below.refl _ _).alloc (Nat.le_refl _) _⟩

/-- A turn of the document's in a block of its own. -/
def RTurnAt (w : World) (B : Nat) (b t d : Int) : Prop := w.heap[B]? = some (.cells #[.int .i64 b, .int .i64 t, .int .i64 d] 25 (0, 0))
section
variable {w w' : World} {B : Nat} {b t d : Int}
theorem RTurnAt.lt (h : RTurnAt w B b t d) : B < w.heap.size := (Array.getElem?_eq_some_iff.1 h).1
theorem RTurnAt.cells (h : RTurnAt w B b t d) : w.cell? ⟨B, 0, none⟩ = some (.int .i64 b) ∧ w.cell? ⟨B, 1, none⟩ = some (.int .i64 t) ∧ w.cell? ⟨B, 2, none⟩ = some (.int .i64 d) ∧ w.frozen? ⟨B, 0, none⟩ = false ∧ w.frozen? ⟨B, 1, none⟩ = false ∧ w.frozen? ⟨B, 2, none⟩ = false :=
  ⟨Lib.cell_of_heap h 0, Lib.cell_of_heap h 1, Lib.cell_of_heap h 2, Lib.frozen_of_heap h 0, Lib.frozen_of_heap h 1, Lib.frozen_of_heap h 2⟩
theorem RTurnAt.below (h : RTurnAt w B b t d) (hb : Below w.heap.size w w') : RTurnAt w' B b t d := (hb.block _ h.lt).trans h
theorem rturn_new (w : World) (b t d : Int) : RTurnAt (w.alloc (.cells #[.int .i64 b, .int .i64 t, .int .i64 d] 25)) w.heap.size b t d := heap_alloc_new w _
theorem RTurnAt.put (h : RTurnAt w B b t d) (b' t' d' : Int) : RTurnAt (putT3 w B b' t' d') B b' t' d' := by
  unfold RTurnAt at h ⊢
  unfold putT3
  have h1 := heap_setCell_same w B 0 _ _ (.int .i64 b') h
  have h2 := heap_setCell_same _ B 1 _ _ (.int .i64 t') h1
  have h3 := heap_setCell_same _ B 2 _ _ (.int .i64 d') h2
  rw [h3]
  rfl
end
theorem pow_steps {t : Int} (h0 : 0 ≤ t) (h1 : t < 5) : ∃ (n : Nat) (f : Nat → Int), t = n ∧ f 0 = 1 ∧ (∀ i, f (i + 1) = 2 * f i) ∧ (∀ i, i ≤ 5 → 1 ≤ f i ∧ f i ≤ 32) ∧ f (n + 1) = waitT t := by
  refine ⟨t.toNat, fun i => 2 ^ i, by omega, rfl, fun i => ?_, fun i hi => ?_, ?_⟩
  · show (2 : Int) ^ (i + 1) = 2 * 2 ^ i
    rw [Int.pow_succ]
    omega
  · rcases (show i = 0 ∨ i = 1 ∨ i = 2 ∨ i = 3 ∨ i = 4 ∨ i = 5 by omega) with rfl | rfl | rfl | rfl | rfl | rfl <;> decide
  · unfold waitT
    rw [show (t + 1).toNat = t.toNat + 1 by omega]

set_option maxRecDepth 100000 in
set_option maxHeartbeats 2000000 in
theorem r15failed_any (b t d now : Int) (w : World) : Calls Try.prog 9 #[turnV b t d, .int .i64 now] w fun e w' => e = .returned (failV (failT b t d now)) ∧ Below w.heap.size w w' := by
  obtain ⟨w1, hw1⟩ : ∃ w1, (w.alloc (.cells #[.int .i64 b, .int .i64 t, .int .i64 d] 25)).alloc (.cells #[.int .i64 0, .int .i64 0, .int .i64 0] 25) = w1 := ⟨_, rfl⟩
  have b1 : Below w.heap.size w w1 := by rw [← hw1]; exact ((Below.refl _ _).alloc (Nat.le_refl _) _).alloc (by simp) _
  have z1 : w1.heap.size = w.heap.size + 2 := by rw [← hw1]; simp
  have t1 : RTurnAt w1 w.heap.size b t d := by
    rw [← hw1]
    exact (rturn_new w b t d).below ((Below.refl _ _).alloc (Nat.le_refl _) _)
  have r1 : RTurnAt w1 (w.heap.size + 1) 0 0 0 := by
    rw [← hw1]
    have := rturn_new (w.alloc (.cells #[.int .i64 b, .int .i64 t, .int .i64 d] 25)) 0 0 0
    rw [World.size_alloc] at this
    exact this
  have K : Hid (∀ W, Below w1.heap.size w1 W → RTurnAt W w.heap.size b t d ∧ RTurnAt W (w.heap.size + 1) 0 0 0 ∧ Below w.heap.size w W) := Lib.hid fun W hW => ⟨t1.below hW, r1.below hW, b1.trans (hW.mono (by omega))⟩
  have hr := r15right_any b t d w1
  obtain ⟨c0, c1, c2, f0, f1, f2⟩ := t1.cells
  unfold failT
  cases hq : rightT b t d with
  | false =>
    rw [if_pos (.inl rfl)]
    rw [hq] at hr
    clear b1 t1 r1 hq
    go_enter Try.func9, Try.ntmps9
    go_wp2_with fail
    refine hr.mono ?_
    rintro e w2 ⟨rfl, hb⟩
    obtain ⟨k1, k2, k3⟩ := K.out w2 hb
    obtain ⟨x0, x1, x2, y0, y1, y2⟩ := k2.cells
    obtain ⟨u0, u1, u2, _⟩ := (k2.put 0 0 0).cells
    have Bl := Lib.hid (putT3_below k3 (show w.heap.size ≤ w.heap.size + 1 by omega) 0 0 0)
    unfold putT3 at u0 u1 u2 Bl
    clear k1 k2 k3 hb K
    go_wp2
    refine bodyPost_ret (v := failV ((0, 0, 0), false, 1)) (by simp [results, failV, turnW, Try.f9, go_sem, u0, u1, u2]) rfl ⟨rfl, Bl.out⟩
  | true =>
    rw [hq] at hr
    obtain ⟨⟨p1, p2⟩, ⟨p3, p4⟩, p5, p6, p7⟩ := right_of hq
    have hnow := r15time_any now
    cases hn : timeT now with
    | false =>
      rw [if_pos (.inr rfl)]
      rw [hn] at hnow
      clear b1 t1 r1 hq hn
      go_enter Try.func9, Try.ntmps9
      go_wp2_with fail
      refine hr.mono ?_
      rintro e w2 ⟨rfl, hb⟩
      obtain ⟨k1, k2, k3⟩ := K.out w2 hb
      obtain ⟨x0, x1, x2, y0, y1, y2⟩ := k2.cells
      obtain ⟨u0, u1, u2, _⟩ := (k2.put 0 0 0).cells
      have Bl := Lib.hid (putT3_below k3 (show w.heap.size ≤ w.heap.size + 1 by omega) 0 0 0)
      unfold putT3 at u0 u1 u2 Bl
      clear k1 k2 k3 hb K
      go_wp2_with fail
      refine (hnow _).mono ?_
      rintro e w' ⟨rfl, rfl⟩
      go_wp2
      refine bodyPost_ret (v := failV ((0, 0, 0), false, 1)) (by simp [results, failV, turnW, Try.f9, go_sem, u0, u1, u2]) rfl ⟨rfl, Bl.out⟩
    | true =>
      rw [if_neg (by simp)]
      rw [hn] at hnow
      obtain ⟨n1, n2⟩ := time_of hn
      by_cases hd : now < d
      · rw [if_pos hd]
        clear b1 t1 r1 hq hn
        go_enter Try.func9, Try.ntmps9
        go_wp2_with fail
        refine hr.mono ?_
        rintro e w2 ⟨rfl, hb⟩
        obtain ⟨k1, k2, k3⟩ := K.out w2 hb
        clear c0 c1 c2 f0 f1 f2
        obtain ⟨c0, c1, c2, f0, f1, f2⟩ := k1.cells
        obtain ⟨x0, x1, x2, y0, y1, y2⟩ := k2.cells
        obtain ⟨u0, u1, u2, _⟩ := (k2.put 0 0 0).cells
        have Bl := Lib.hid (putT3_below k3 (show w.heap.size ≤ w.heap.size + 1 by omega) 0 0 0)
        unfold putT3 at u0 u1 u2 Bl
        clear k1 k2 k3 hb K
        go_wp2_with fail
        refine (hnow _).mono ?_
        rintro e w' ⟨rfl, rfl⟩
        go_wp2
        refine bodyPost_ret (v := failV ((0, 0, 0), false, 9)) (by simp [results, failV, turnW, Try.f9, go_sem, u0, u1, u2]) rfl ⟨rfl, Bl.out⟩
      · rw [if_neg hd]
        have hw := wait_few p6 p7
        obtain ⟨n, f, rfl, hf0, hfs, hfb, hfw⟩ := pow_steps p6 p7
        have HF := Lib.hid (And.intro hf0 (And.intro hfs (And.intro hfb hfw)))
        obtain ⟨wt, hwt⟩ : ∃ x, waitT (n : Int) = x := ⟨_, rfl⟩
        rw [hwt] at hw HF ⊢
        obtain ⟨R, hR⟩ : ∃ R : TurnT × Bool × Int, (if (n : Int) = 4 ∨ 40 < now - b ∨ 1099511627776 < now + wt then ((0, 0, 0), true, 0) else ((b, (n : Int) + 1, now + wt), false, 0)) = R := ⟨_, rfl⟩
        rw [hR]
        have HR := Lib.hid hR
        clear hR
        clear b1 t1 r1 hq hn hf0 hfs hfb hfw hwt
        go_enter Try.func9, Try.ntmps9
        go_wp2_with fail
        refine hr.mono ?_
        rintro e w2 ⟨rfl, hb⟩
        obtain ⟨k1, k2, k3⟩ := K.out w2 hb
        clear c0 c1 c2 f0 f1 f2
        obtain ⟨c0, c1, c2, f0, f1, f2⟩ := k1.cells
        have Fin := Lib.hid (And.intro k1 (And.intro k2 k3))
        clear k1 k2 k3 hb K
        go_wp2_with fail
        refine (hnow _).mono ?_
        rintro e w3 ⟨rfl, h9⟩
        obtain rfl := h9.symm
        clear h9
        go_wp2
        go_loopw [8, 9] (fun wv iv wr => ∃ i : Nat, i ≤ n + 1 ∧ iv = .int .i64 i ∧ wv = .int .i64 (f i) ∧ wr = w2) (fun _ iv _ => n + 1 - (intOf iv).toNat)
        case atStart => exact ⟨0, by omega, rfl, by rw [HF.out.1], rfl⟩
        case round =>
          obtain ⟨i, hi, rfl, rfl, hwr⟩ := hrel
          obtain rfl := hwr.symm
          clear hwr
          by_cases hlt : i < n + 1
          · obtain ⟨g1, g2⟩ := HF.out.2.2.1 i (by omega)
            have gs := HF.out.2.1 i
            obtain ⟨x, hx⟩ : ∃ x, f i = x := ⟨_, rfl⟩
            rw [hx] at g1 g2 gs ⊢
            have Gs := Lib.hid gs
            clear gs hx
            go_wp2
            go_roundw
            case rel => exact ⟨i + 1, by omega, by go_num, by rw [Gs.out], by first | rfl | trivial⟩
            case measure => simp [intOf]; omega
          · obtain rfl : i = n + 1 := by omega
            have e1 : f (n + 1) = wt := HF.out.2.2.2
            rw [e1]
            clear HF e1
            have hnn : (((n + 1 : Nat) : Int)) = (n : Int) + 1 := by omega
            obtain ⟨x0, x1, x2, y0, y1, y2⟩ := Fin.out.2.1.cells
            by_cases h4 : (n : Int) = 4
            · have hr2 := HR.out
              rw [if_pos (.inl h4)] at hr2
              clear HR
              have h5 : ((n : Int) + 1 == 5) = true := by simpa using (by omega : (n : Int) + 1 = 5)
              obtain ⟨u0, u1, u2, _⟩ := (Fin.out.2.1.put 0 0 0).cells
              have Bl := Lib.hid (putT3_below Fin.out.2.2 (show w.heap.size ≤ w.heap.size + 1 by omega) 0 0 0)
              unfold putT3 at u0 u1 u2 Bl
              clear Fin
              go_wp2
              refine bodyPost_ret (v := failV ((0, 0, 0), true, 0)) (by simp [results, failV, turnW, Try.f9, go_sem, u0, u1, u2]) rfl ⟨by rw [← hr2], Bl.out⟩
            · have h5 : ((n : Int) + 1 == 5) = false := by simpa using (by omega : ¬ (n : Int) + 1 = 5)
              by_cases h40 : 40 < now - b
              · have hr2 := HR.out
                rw [if_pos (.inr (.inl h40))] at hr2
                clear HR
                obtain ⟨u0, u1, u2, _⟩ := (Fin.out.2.1.put 0 0 0).cells
                have Bl := Lib.hid (putT3_below Fin.out.2.2 (show w.heap.size ≤ w.heap.size + 1 by omega) 0 0 0)
                unfold putT3 at u0 u1 u2 Bl
                clear Fin
                go_wp2
                refine bodyPost_ret (v := failV ((0, 0, 0), true, 0)) (by simp [results, failV, turnW, Try.f9, go_sem, u0, u1, u2]) rfl ⟨by rw [← hr2], Bl.out⟩
              · have h41 : decide (40 < now - b) = false := decide_eq_false h40
                by_cases hl : 1099511627776 < now + wt
                · have hr2 := HR.out
                  rw [if_pos (.inr (.inr hl))] at hr2
                  clear HR
                  obtain ⟨u0, u1, u2, _⟩ := (Fin.out.2.1.put 0 0 0).cells
                  have Bl := Lib.hid (putT3_below Fin.out.2.2 (show w.heap.size ≤ w.heap.size + 1 by omega) 0 0 0)
                  unfold putT3 at u0 u1 u2 Bl
                  clear Fin
                  go_wp2
                  refine bodyPost_ret (v := failV ((0, 0, 0), true, 0)) (by simp [results, failV, turnW, Try.f9, go_sem, u0, u1, u2]) rfl ⟨by rw [← hr2], Bl.out⟩
                · have hr2 := HR.out
                  rw [if_neg (by omega)] at hr2
                  clear HR
                  have hl2 : decide (1099511627776 < now + wt) = false := decide_eq_false hl
                  obtain ⟨u0, u1, u2, _⟩ := (Fin.out.2.1.put b ((n : Int) + 1) (now + wt)).cells
                  have Bl := Lib.hid (putT3_below Fin.out.2.2 (show w.heap.size ≤ w.heap.size + 1 by omega) b ((n : Int) + 1) (now + wt))
                  unfold putT3 at u0 u1 u2 Bl
                  clear Fin
                  go_wp2
                  refine bodyPost_ret (v := failV ((b, (n : Int) + 1, now + wt), false, 0)) (by simp [results, failV, turnW, Try.f9, go_sem, u0, u1, u2]) rfl ⟨by rw [← hr2], Bl.out⟩
end Go.Proofs.Ytnggjoleiapboaa
