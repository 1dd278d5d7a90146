/-
  RetryEnds returns true, for any time and any numbers: the walk.
-/
import Derived.Test.YtnggjoleiapboaaRtGrows
import Derived.Test.YtnggjoleiapboaaArgs15
namespace Go.Proofs.Ytnggjoleiapboaa
open Go.RowKit Go.Maps

/-- The plan's times, where none is behind the last time. -/
theorem plan_early {now : Int} (h0 : 0 ≤ now) (h1 : now ≤ 549755813888) : planT now = [now, now + 2, now + 6, now + 14, now + 30] := by
  have ht : ∀ x : Int, now ≤ x → x ≤ now + 100 → timeT x = true := fun x p q => by
    unfold timeT
    rw [decide_eq_true (show 0 ≤ x by omega), decide_eq_true (show x ≤ 1099511627776 by omega)]
    rfl
  have step : ∀ (t d : Int), 0 ≤ t → t < 4 → now ≤ d → d ≤ now + 40 → failT now t d d = ((now, t + 1, d + waitT t), false, 0) := fun t d p q r s => by
    have hw := wait_few p (by omega)
    unfold failT
    rw [if_neg (by
      rw [ht d r (by omega)]
      have : rightT now t d = true := by
        unfold rightT
        rw [ht now (by omega) (by omega), ht d r (by omega), decide_eq_true r, decide_eq_true p, decide_eq_true (show t < 5 by omega)]
        rfl
      rw [this]
      simp), if_neg (by omega), if_neg (by omega)]
  have w0 : waitT 0 = 2 := by decide
  have w1 : waitT 1 = 4 := by decide
  have w2 : waitT 2 = 8 := by decide
  have w3 : waitT 3 = 16 := by decide
  have s0 := step 0 now (by omega) (by omega) (by omega) (by omega)
  have s1 := step 1 (now + 2) (by omega) (by omega) (by omega) (by omega)
  have s2 := step 2 (now + 6) (by omega) (by omega) (by omega) (by omega)
  have s3 := step 3 (now + 14) (by omega) (by omega) (by omega) (by omega)
  rw [w0, show (0 : Int) + 1 = 1 from rfl] at s0
  rw [w1, show (1 : Int) + 1 = 2 from rfl, show now + 2 + 4 = now + 6 by omega] at s1
  rw [w2, show (2 : Int) + 1 = 3 from rfl, show now + 6 + 8 = now + 14 by omega] at s2
  rw [w3, show (3 : Int) + 1 = 4 from rfl, show now + 14 + 16 = now + 30 by omega] at s3
  have s4 : (failT now 4 (now + 30) (now + 30)).2.1 = true ∨ (failT now 4 (now + 30) (now + 30)).2.2 ≠ 0 := by
    unfold failT
    split
    · exact .inr (by decide)
    · split
      · exact .inr (by decide)
      · rw [if_pos (.inl rfl)]
        exact .inl rfl
  unfold planT
  rw [if_pos (ht now (by omega) (by omega))]
  unfold planF
  rw [s0, if_neg (by simp)]
  simp only
  unfold planF
  rw [s1, if_neg (by simp)]
  simp only
  unfold planF
  rw [s2, if_neg (by simp)]
  simp only
  unfold planF
  rw [s3, if_neg (by simp)]
  simp only
  unfold planF
  rw [if_pos s4]

theorem ends_fail {now d a2 : Int} {i : Nat} (h0 : 0 ≤ now) (h1 : now ≤ 549755813888) (hi : i ≤ 4) (hd : now ≤ d) (ha : d ≤ a2) (hm : a2 ≤ now + 600000) : failT now i d a2 = ((0, 0, 0), true, 0) ∨
    (i < 4 ∧ ∃ wt, failT now i d a2 = ((now, (i : Int) + 1, a2 + wt), false, 0) ∧ 1 ≤ wt ∧ wt ≤ 32 ∧ rightT now ((i : Int) + 1) (a2 + wt) = true) := by
  have hr : rightT now i d = true := by
    unfold rightT timeT
    simp only [Bool.and_eq_true, decide_eq_true_eq]
    omega
  have ht : timeT a2 = true := by
    unfold timeT
    simp only [Bool.and_eq_true, decide_eq_true_eq]
    omega
  have hy : readyT now i d a2 = true := by
    unfold readyT
    rw [hr, decide_eq_true ha]
    rfl
  rcases fail_cases now i d a2 with ⟨h, _⟩ | ⟨_, h | h | ⟨h, h2, h3, h4, h5, h6⟩⟩
  · rw [hy] at h
    cases h
  · unfold failT at h
    rw [if_neg (by rw [hr, ht]; simp), if_neg (by omega)] at h
    split at h
    · exact absurd (Prod.mk.inj (Prod.mk.inj h).2).2 (by decide)
    · exact absurd (Prod.mk.inj (Prod.mk.inj h).2).2 (by decide)
  · exact .inl h
  · have hw := wait_few (t := (i : Int)) (by omega) (by omega)
    exact .inr ⟨by omega, waitT i, h, by omega, by omega, h2⟩

set_option maxRecDepth 100000 in
set_option maxHeartbeats 4000000 in
theorem rends_walk (now : Int) (A : Option Addr) (n c : Nat) (w : World) (hs : Smalls w A n) (hnc : n ≤ c) (hcm : c ≤ maxLen) : Calls Try.prog 4 #[.int .i64 now, .slice A n c] w fun e w' => e = .returned (.bool true) ∧ Below w.heap.size w w' := by
  have ha := awake15_any w
  have hn := rnew_any now
  unfold maxLen at hcm
  by_cases hr : 0 ≤ now ∧ now ≤ 549755813888
  · obtain ⟨h0, h1⟩ := hr
    have ht : timeT now = true := by
      unfold timeT
      rw [decide_eq_true h0, decide_eq_true (show now ≤ 1099511627776 by omega)]
      rfl
    have hpl : Hid (∀ W, Calls Try.prog 11 #[.int .i64 now] W fun r w' => ∃ ao cap, r = .returned (.slice ao 5 cap) ∧ TimesOwn w' W.heap.size (.slice ao 5 cap) [now, now + 2, now + 6, now + 14, now + 30] ∧ Below W.heap.size W w') := Lib.hid fun W => by
      have := rplan_row now W
      rw [plan_early h0 h1] at this
      exact this
    have hnw := newV_yes ht
    clear hn
    go_enter Try.func4, Try.ntmps4
    go_wp2_with fail
    refine ha.mono ?_
    rintro e w1 ⟨rfl, hb1⟩
    go_wp2_with fail
    refine (hnw _).mono ?_
    rintro e w2 ⟨rfl, hb2⟩
    have hb := hb2.alloc hb2.size (.cells #[.int .i64 now, .int .i64 0, .int .i64 now] 23)
    have K3 := Lib.hid (And.intro (turn_new w2 now 0 now) (And.intro (hb1.trans (hb.mono hb1.size)) (And.intro (Nat.le_trans hb1.size hb2.size) (by simp : w2.heap.size < (w2.alloc (.cells #[.int .i64 now, .int .i64 0, .int .i64 now] 23)).heap.size))))
    clear ha hnw hb1 hb2 hb
    go_wp2
    go_loopw [7, 8] (fun av iv wr => ∃ (i : Nat) (at_ d : Int), i ≤ 4 ∧ iv = .int .i64 i ∧ av = .int .i64 at_ ∧ now ≤ at_ ∧ at_ ≤ now + 100000 * i ∧ now ≤ d ∧ d ≤ now + 100000 * i ∧ Hid (TurnAt wr w2.heap.size now i d ∧ Below w.heap.size w wr ∧ w.heap.size ≤ w2.heap.size ∧ w2.heap.size < wr.heap.size)) (fun _ iv _ => 6 - (intOf iv).toNat)
    case atStart => exact ⟨0, now, now, by omega, rfl, rfl, by omega, by omega, by omega, by omega, Lib.hid ⟨K3.out.1, K3.out.2.1, K3.out.2.2.1, K3.out.2.2.2⟩⟩
    case round =>
      clear K3
      obtain ⟨i, at_, d, hi, rfl, rfl, ha0, ha1, hd0, hd1, hk⟩ := hrel
      obtain ⟨c0, c1, c2, _⟩ := hk.out.1.cells
      by_cases hlt : i < n
      · obtain ⟨b, off, k, rfl, hk6, hcell⟩ := hs.at hlt
        have z := hcell wr (hk.out.2.1.mono (by omega))
        clear hcell
        go_wp2_with fail
        · skip
          have A1 : now ≤ d ∧ d ≤ now + 100000 * i + 65535 ∧ d ≤ d := by omega
          have hf := rfailed_any now i d d wr

          rcases ends_fail h0 h1 hi hd0 A1.2.2 (show d ≤ now + 600000 by omega) with hE | ⟨h4, wt, hE, hw0, hw1, hR⟩
          · rw [hE] at hf
            clear hE
            refine hf.mono ?_
            rintro e w4 ⟨rfl, hb⟩
            unfold failV turnW
            have hb' := hb.alloc hb.size (.cells #[.int .i64 0, .int .i64 0, .int .i64 0] 23)
            have K4 := Lib.hid (And.intro (hk.out.2.1.trans (hb'.mono hk.out.2.1.size)) trivial)
            have hi4 : decide ((4 : Int) < (i : Int)) = false := decide_eq_false (by omega)
            clear hf hb hb' hk c0 c1 c2
            go_wp2_with fail
            refine (hpl.out _).mono ?_
            rintro e w5 ⟨ao, cap, rfl, ho, hb⟩
            obtain ⟨g, rfl, _, _, m1, m2, z0⟩ := ho.cells 0 (by simp)
            obtain ⟨g', e4, _, _, _, _, z4⟩ := ho.cells 4 (by simp)
            obtain rfl : g = g' := by cases e4; rfl
            unfold maxLen at m2
            replace z0 : w5.cell? ⟨g, 0, none⟩ = some (.int .i64 now) := z0
            replace z4 : w5.cell? ⟨g, 4, none⟩ = some (.int .i64 (now + 30)) := z4
            have Fin := Lib.hid (K4.out.1.trans (hb.mono K4.out.1.size))
            clear ho hb K4 e4
            go_wp2
            go_ret
            exact ⟨by rw [show decide (now + 30 - now ≤ 40) = true from decide_eq_true (by omega)]; rfl, Fin.out⟩
          · rw [hE] at hf
            clear hE
            refine hf.mono ?_
            rintro e w4 ⟨rfl, hb⟩
            unfold failV turnW
            have hb' := hb.alloc hb.size (.cells #[.int .i64 now, .int .i64 ((i : Int) + 1), .int .i64 (d + wt)] 23)
            have K4 := Lib.hid (And.intro (hk.out.1.below hb') (And.intro (turn_new w4 now ((i : Int) + 1) (d + wt)) (And.intro (hk.out.2.1.trans (hb'.mono hk.out.2.1.size)) (And.intro hk.out.2.2.1 (And.intro (Nat.lt_of_lt_of_le hk.out.2.2.2 hb.size) (Nat.lt_of_lt_of_le hk.out.2.2.2 hb'.size))))))
            clear hf hb hb' hk c0 c1 c2
            obtain ⟨c0, c1, c2, _⟩ := K4.out.2.1.cells
            have hrr := rright_any now ((i : Int) + 1) (d + wt) (w4.alloc (.cells #[.int .i64 now, .int .i64 ((i : Int) + 1), .int .i64 (d + wt)] 23))
            rw [hR] at hrr
            go_wp2_with fail
            refine hrr.mono ?_
            rintro e w5 ⟨rfl, hb⟩
            have n5 := K4.out.2.1.below hb
            have t5 := K4.out.1.below hb
            clear c0 c1 c2 hrr
            obtain ⟨c0, c1, c2, _⟩ := n5.cells
            obtain ⟨d0, d1, d2, f0, f1, f2⟩ := t5.cells
            have Fin := Lib.hid (show TurnAt (putT3 w5 w2.heap.size now ((i + 1 : Nat) : Int) (d + wt)) w2.heap.size now ((i + 1 : Nat) : Int) (d + wt) ∧ Below w.heap.size w (putT3 w5 w2.heap.size now ((i + 1 : Nat) : Int) (d + wt)) ∧ w.heap.size ≤ w2.heap.size ∧ w2.heap.size < (putT3 w5 w2.heap.size now ((i + 1 : Nat) : Int) (d + wt)).heap.size from by
              have hp := t5.put now ((i + 1 : Nat) : Int) (d + wt)
              exact ⟨hp, putT3_below (K4.out.2.2.1.trans (hb.mono K4.out.2.2.1.size)) K4.out.2.2.2.1 _ _ _, K4.out.2.2.2.1, hp.lt⟩)
            unfold putT3 at Fin
            have hne : w4.heap.size ≠ w2.heap.size := by have := K4.out.2.2.2.2.1; omega
            have hcast : ((i + 1 : Nat) : Int) = (i : Int) + 1 := by omega
            rw [hcast] at Fin
            clear n5 t5 hb K4
            go_wp2
            go_roundw
            case rel => exact ⟨i + 1, d, d + wt, by omega, by go_num, rfl, by omega, by omega, by omega, by omega, by rw [hcast]; exact Fin⟩
            case measure => simp [intOf]; omega
        · skip
          obtain ⟨a2, ha2⟩ : ∃ a2 : Int, at_ + (k : Int) = a2 := ⟨_, rfl⟩
          rw [ha2]
          have A1 : now ≤ a2 ∧ a2 ≤ now + 100000 * i + 65535 ∧ d ≤ a2 := by omega
          have hf := rfailed_any now i d a2 wr

          rcases ends_fail h0 h1 hi hd0 A1.2.2 (show a2 ≤ now + 600000 by omega) with hE | ⟨h4, wt, hE, hw0, hw1, hR⟩
          · rw [hE] at hf
            clear hE
            refine hf.mono ?_
            rintro e w4 ⟨rfl, hb⟩
            unfold failV turnW
            have hb' := hb.alloc hb.size (.cells #[.int .i64 0, .int .i64 0, .int .i64 0] 23)
            have K4 := Lib.hid (And.intro (hk.out.2.1.trans (hb'.mono hk.out.2.1.size)) trivial)
            have hi4 : decide ((4 : Int) < (i : Int)) = false := decide_eq_false (by omega)
            clear hf hb hb' hk c0 c1 c2
            go_wp2_with fail
            refine (hpl.out _).mono ?_
            rintro e w5 ⟨ao, cap, rfl, ho, hb⟩
            obtain ⟨g, rfl, _, _, m1, m2, z0⟩ := ho.cells 0 (by simp)
            obtain ⟨g', e4, _, _, _, _, z4⟩ := ho.cells 4 (by simp)
            obtain rfl : g = g' := by cases e4; rfl
            unfold maxLen at m2
            replace z0 : w5.cell? ⟨g, 0, none⟩ = some (.int .i64 now) := z0
            replace z4 : w5.cell? ⟨g, 4, none⟩ = some (.int .i64 (now + 30)) := z4
            have Fin := Lib.hid (K4.out.1.trans (hb.mono K4.out.1.size))
            clear ho hb K4 e4
            go_wp2
            go_ret
            exact ⟨by rw [show decide (now + 30 - now ≤ 40) = true from decide_eq_true (by omega)]; rfl, Fin.out⟩
          · rw [hE] at hf
            clear hE
            refine hf.mono ?_
            rintro e w4 ⟨rfl, hb⟩
            unfold failV turnW
            have hb' := hb.alloc hb.size (.cells #[.int .i64 now, .int .i64 ((i : Int) + 1), .int .i64 (a2 + wt)] 23)
            have K4 := Lib.hid (And.intro (hk.out.1.below hb') (And.intro (turn_new w4 now ((i : Int) + 1) (a2 + wt)) (And.intro (hk.out.2.1.trans (hb'.mono hk.out.2.1.size)) (And.intro hk.out.2.2.1 (And.intro (Nat.lt_of_lt_of_le hk.out.2.2.2 hb.size) (Nat.lt_of_lt_of_le hk.out.2.2.2 hb'.size))))))
            clear hf hb hb' hk c0 c1 c2
            obtain ⟨c0, c1, c2, _⟩ := K4.out.2.1.cells
            have hrr := rright_any now ((i : Int) + 1) (a2 + wt) (w4.alloc (.cells #[.int .i64 now, .int .i64 ((i : Int) + 1), .int .i64 (a2 + wt)] 23))
            rw [hR] at hrr
            go_wp2_with fail
            refine hrr.mono ?_
            rintro e w5 ⟨rfl, hb⟩
            have n5 := K4.out.2.1.below hb
            have t5 := K4.out.1.below hb
            clear c0 c1 c2 hrr
            obtain ⟨c0, c1, c2, _⟩ := n5.cells
            obtain ⟨d0, d1, d2, f0, f1, f2⟩ := t5.cells
            have Fin := Lib.hid (show TurnAt (putT3 w5 w2.heap.size now ((i + 1 : Nat) : Int) (a2 + wt)) w2.heap.size now ((i + 1 : Nat) : Int) (a2 + wt) ∧ Below w.heap.size w (putT3 w5 w2.heap.size now ((i + 1 : Nat) : Int) (a2 + wt)) ∧ w.heap.size ≤ w2.heap.size ∧ w2.heap.size < (putT3 w5 w2.heap.size now ((i + 1 : Nat) : Int) (a2 + wt)).heap.size from by
              have hp := t5.put now ((i + 1 : Nat) : Int) (a2 + wt)
              exact ⟨hp, putT3_below (K4.out.2.2.1.trans (hb.mono K4.out.2.2.1.size)) K4.out.2.2.2.1 _ _ _, K4.out.2.2.2.1, hp.lt⟩)
            unfold putT3 at Fin
            have hne : w4.heap.size ≠ w2.heap.size := by have := K4.out.2.2.2.2.1; omega
            have hcast : ((i + 1 : Nat) : Int) = (i : Int) + 1 := by omega
            rw [hcast] at Fin
            clear n5 t5 hb K4
            go_wp2
            go_roundw
            case rel => exact ⟨i + 1, a2, a2 + wt, by omega, by go_num, rfl, by omega, by omega, by omega, by omega, by rw [hcast]; exact Fin⟩
            case measure => simp [intOf]; omega
      · have hlt2 : decide ((i : Int) < (n : Int)) = false := decide_eq_false (by omega)
        go_wp2_with fail
        · skip
          have A1 : now ≤ d ∧ d ≤ now + 100000 * i + 65535 ∧ d ≤ d := by omega
          have hf := rfailed_any now i d d wr

          rcases ends_fail h0 h1 hi hd0 A1.2.2 (show d ≤ now + 600000 by omega) with hE | ⟨h4, wt, hE, hw0, hw1, hR⟩
          · rw [hE] at hf
            clear hE
            refine hf.mono ?_
            rintro e w4 ⟨rfl, hb⟩
            unfold failV turnW
            have hb' := hb.alloc hb.size (.cells #[.int .i64 0, .int .i64 0, .int .i64 0] 23)
            have K4 := Lib.hid (And.intro (hk.out.2.1.trans (hb'.mono hk.out.2.1.size)) trivial)
            have hi4 : decide ((4 : Int) < (i : Int)) = false := decide_eq_false (by omega)
            clear hf hb hb' hk c0 c1 c2
            go_wp2_with fail
            refine (hpl.out _).mono ?_
            rintro e w5 ⟨ao, cap, rfl, ho, hb⟩
            obtain ⟨g, rfl, _, _, m1, m2, z0⟩ := ho.cells 0 (by simp)
            obtain ⟨g', e4, _, _, _, _, z4⟩ := ho.cells 4 (by simp)
            obtain rfl : g = g' := by cases e4; rfl
            unfold maxLen at m2
            replace z0 : w5.cell? ⟨g, 0, none⟩ = some (.int .i64 now) := z0
            replace z4 : w5.cell? ⟨g, 4, none⟩ = some (.int .i64 (now + 30)) := z4
            have Fin := Lib.hid (K4.out.1.trans (hb.mono K4.out.1.size))
            clear ho hb K4 e4
            go_wp2
            go_ret
            exact ⟨by rw [show decide (now + 30 - now ≤ 40) = true from decide_eq_true (by omega)]; rfl, Fin.out⟩
          · rw [hE] at hf
            clear hE
            refine hf.mono ?_
            rintro e w4 ⟨rfl, hb⟩
            unfold failV turnW
            have hb' := hb.alloc hb.size (.cells #[.int .i64 now, .int .i64 ((i : Int) + 1), .int .i64 (d + wt)] 23)
            have K4 := Lib.hid (And.intro (hk.out.1.below hb') (And.intro (turn_new w4 now ((i : Int) + 1) (d + wt)) (And.intro (hk.out.2.1.trans (hb'.mono hk.out.2.1.size)) (And.intro hk.out.2.2.1 (And.intro (Nat.lt_of_lt_of_le hk.out.2.2.2 hb.size) (Nat.lt_of_lt_of_le hk.out.2.2.2 hb'.size))))))
            clear hf hb hb' hk c0 c1 c2
            obtain ⟨c0, c1, c2, _⟩ := K4.out.2.1.cells
            have hrr := rright_any now ((i : Int) + 1) (d + wt) (w4.alloc (.cells #[.int .i64 now, .int .i64 ((i : Int) + 1), .int .i64 (d + wt)] 23))
            rw [hR] at hrr
            go_wp2_with fail
            refine hrr.mono ?_
            rintro e w5 ⟨rfl, hb⟩
            have n5 := K4.out.2.1.below hb
            have t5 := K4.out.1.below hb
            clear c0 c1 c2 hrr
            obtain ⟨c0, c1, c2, _⟩ := n5.cells
            obtain ⟨d0, d1, d2, f0, f1, f2⟩ := t5.cells
            have Fin := Lib.hid (show TurnAt (putT3 w5 w2.heap.size now ((i + 1 : Nat) : Int) (d + wt)) w2.heap.size now ((i + 1 : Nat) : Int) (d + wt) ∧ Below w.heap.size w (putT3 w5 w2.heap.size now ((i + 1 : Nat) : Int) (d + wt)) ∧ w.heap.size ≤ w2.heap.size ∧ w2.heap.size < (putT3 w5 w2.heap.size now ((i + 1 : Nat) : Int) (d + wt)).heap.size from by
              have hp := t5.put now ((i + 1 : Nat) : Int) (d + wt)
              exact ⟨hp, putT3_below (K4.out.2.2.1.trans (hb.mono K4.out.2.2.1.size)) K4.out.2.2.2.1 _ _ _, K4.out.2.2.2.1, hp.lt⟩)
            unfold putT3 at Fin
            have hne : w4.heap.size ≠ w2.heap.size := by have := K4.out.2.2.2.2.1; omega
            have hcast : ((i + 1 : Nat) : Int) = (i : Int) + 1 := by omega
            rw [hcast] at Fin
            clear n5 t5 hb K4
            go_wp2
            go_roundw
            case rel => exact ⟨i + 1, d, d + wt, by omega, by go_num, rfl, by omega, by omega, by omega, by omega, by rw [hcast]; exact Fin⟩
            case measure => simp [intOf]; omega
        · skip
          obtain ⟨a2, ha2⟩ : ∃ a2 : Int, at_ = a2 := ⟨_, rfl⟩
          rw [ha2]
          have A1 : now ≤ a2 ∧ a2 ≤ now + 100000 * i + 65535 ∧ d ≤ a2 := by omega
          have hf := rfailed_any now i d a2 wr

          rcases ends_fail h0 h1 hi hd0 A1.2.2 (show a2 ≤ now + 600000 by omega) with hE | ⟨h4, wt, hE, hw0, hw1, hR⟩
          · rw [hE] at hf
            clear hE
            refine hf.mono ?_
            rintro e w4 ⟨rfl, hb⟩
            unfold failV turnW
            have hb' := hb.alloc hb.size (.cells #[.int .i64 0, .int .i64 0, .int .i64 0] 23)
            have K4 := Lib.hid (And.intro (hk.out.2.1.trans (hb'.mono hk.out.2.1.size)) trivial)
            have hi4 : decide ((4 : Int) < (i : Int)) = false := decide_eq_false (by omega)
            clear hf hb hb' hk c0 c1 c2
            go_wp2_with fail
            refine (hpl.out _).mono ?_
            rintro e w5 ⟨ao, cap, rfl, ho, hb⟩
            obtain ⟨g, rfl, _, _, m1, m2, z0⟩ := ho.cells 0 (by simp)
            obtain ⟨g', e4, _, _, _, _, z4⟩ := ho.cells 4 (by simp)
            obtain rfl : g = g' := by cases e4; rfl
            unfold maxLen at m2
            replace z0 : w5.cell? ⟨g, 0, none⟩ = some (.int .i64 now) := z0
            replace z4 : w5.cell? ⟨g, 4, none⟩ = some (.int .i64 (now + 30)) := z4
            have Fin := Lib.hid (K4.out.1.trans (hb.mono K4.out.1.size))
            clear ho hb K4 e4
            go_wp2
            go_ret
            exact ⟨by rw [show decide (now + 30 - now ≤ 40) = true from decide_eq_true (by omega)]; rfl, Fin.out⟩
          · rw [hE] at hf
            clear hE
            refine hf.mono ?_
            rintro e w4 ⟨rfl, hb⟩
            unfold failV turnW
            have hb' := hb.alloc hb.size (.cells #[.int .i64 now, .int .i64 ((i : Int) + 1), .int .i64 (a2 + wt)] 23)
            have K4 := Lib.hid (And.intro (hk.out.1.below hb') (And.intro (turn_new w4 now ((i : Int) + 1) (a2 + wt)) (And.intro (hk.out.2.1.trans (hb'.mono hk.out.2.1.size)) (And.intro hk.out.2.2.1 (And.intro (Nat.lt_of_lt_of_le hk.out.2.2.2 hb.size) (Nat.lt_of_lt_of_le hk.out.2.2.2 hb'.size))))))
            clear hf hb hb' hk c0 c1 c2
            obtain ⟨c0, c1, c2, _⟩ := K4.out.2.1.cells
            have hrr := rright_any now ((i : Int) + 1) (a2 + wt) (w4.alloc (.cells #[.int .i64 now, .int .i64 ((i : Int) + 1), .int .i64 (a2 + wt)] 23))
            rw [hR] at hrr
            go_wp2_with fail
            refine hrr.mono ?_
            rintro e w5 ⟨rfl, hb⟩
            have n5 := K4.out.2.1.below hb
            have t5 := K4.out.1.below hb
            clear c0 c1 c2 hrr
            obtain ⟨c0, c1, c2, _⟩ := n5.cells
            obtain ⟨d0, d1, d2, f0, f1, f2⟩ := t5.cells
            have Fin := Lib.hid (show TurnAt (putT3 w5 w2.heap.size now ((i + 1 : Nat) : Int) (a2 + wt)) w2.heap.size now ((i + 1 : Nat) : Int) (a2 + wt) ∧ Below w.heap.size w (putT3 w5 w2.heap.size now ((i + 1 : Nat) : Int) (a2 + wt)) ∧ w.heap.size ≤ w2.heap.size ∧ w2.heap.size < (putT3 w5 w2.heap.size now ((i + 1 : Nat) : Int) (a2 + wt)).heap.size from by
              have hp := t5.put now ((i + 1 : Nat) : Int) (a2 + wt)
              exact ⟨hp, putT3_below (K4.out.2.2.1.trans (hb.mono K4.out.2.2.1.size)) K4.out.2.2.2.1 _ _ _, K4.out.2.2.2.1, hp.lt⟩)
            unfold putT3 at Fin
            have hne : w4.heap.size ≠ w2.heap.size := by have := K4.out.2.2.2.2.1; omega
            have hcast : ((i + 1 : Nat) : Int) = (i : Int) + 1 := by omega
            rw [hcast] at Fin
            clear n5 t5 hb K4
            go_wp2
            go_roundw
            case rel => exact ⟨i + 1, a2, a2 + wt, by omega, by go_num, rfl, by omega, by omega, by omega, by omega, by rw [hcast]; exact Fin⟩
            case measure => simp [intOf]; omega
  · cases ht : timeT now with
    | false =>
      have hnw : ∀ W, Calls Try.prog 10 #[.int .i64 now] W fun e w' => e = .returned (.tuple #[turnV 0 0 0, .int .i64 1]) ∧ Below W.heap.size W w' := fun W => by
        have := hn W
        rw [ht] at this
        exact this
      clear hn ht
      go_enter Try.func4, Try.ntmps4
      go_wp2_with fail
      refine ha.mono ?_
      rintro e w1 ⟨rfl, hb1⟩
      go_wp2_with fail
      refine (hnw _).mono ?_
      rintro e w2 ⟨rfl, hb2⟩
      have Fin := Lib.hid (hb1.trans ((hb2.alloc hb2.size (.cells #[.int .i64 0, .int .i64 0, .int .i64 0] 23)).mono hb1.size))
      clear ha hnw hb1 hb2
      go_wp2
      go_ret
      exact ⟨rfl, Fin.out⟩
    | true =>
      obtain ⟨t1, t2⟩ := time_of ht
      have hnw := newV_yes ht
      have hlim : 549755813888 < now := by omega
      clear hn ht hr
      go_enter Try.func4, Try.ntmps4
      go_wp2_with fail
      refine ha.mono ?_
      rintro e w1 ⟨rfl, hb1⟩
      go_wp2_with fail
      refine (hnw _).mono ?_
      rintro e w2 ⟨rfl, hb2⟩
      have Fin := Lib.hid (hb1.trans ((hb2.alloc hb2.size (.cells #[.int .i64 now, .int .i64 0, .int .i64 now] 23)).mono hb1.size))
      clear ha hnw hb1 hb2
      go_wp2
      go_ret
      exact ⟨rfl, Fin.out⟩
end Go.Proofs.Ytnggjoleiapboaa
