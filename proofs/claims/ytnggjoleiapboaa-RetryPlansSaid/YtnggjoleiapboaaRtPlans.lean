/-
  RetryPlans returns true, for any two times: the walk.
-/
import Derived.Test.YtnggjoleiapboaaRtEnds
import Derived.Deep.RegionWith
import Derived.Deep.RegionHeld3
namespace Go.Proofs.Ytnggjoleiapboaa
open Go.RowKit Go.Maps

theorem cell_lt15 {w : World} {g j : Nat} {v : Value} (h : w.cell? ⟨g, j, none⟩ = some v) : g < w.heap.size := by
  rcases Nat.lt_or_ge g w.heap.size with h1 | h1
  · exact h1
  · rw [World.cell?, Array.getElem?_eq_none h1] at h
    simp at h
theorem wrap_smallT {x : Int} (h0 : 0 ≤ x) (h1 : x < 1000000000) : IntKind.i64.wrap x = x := by
  have h := IntWalk.wrap64_in x (by omega)
  unfold wrap64 at h
  rw [IntKind.wrap_i64]
  exact h
/-- How much later the tries are. -/
def offT : Nat → Int
  | 0 => 0
  | 1 => 2
  | 2 => 6
  | 3 => 14
  | _ => 30
theorem off_at (now : Int) (i : Nat) (h : i < [now, now + 2, now + 6, now + 14, now + 30].length) : [now, now + 2, now + 6, now + 14, now + 30][i] = now + offT i := by
  match i, h with
  | 0, _ => show now = now + 0; omega
  | 1, _ => rfl
  | 2, _ => rfl
  | 3, _ => rfl
  | 4, _ => rfl
  | i + 5, h => exact absurd h (by simp)
theorem off_range (i : Nat) : 0 ≤ offT i ∧ offT i ≤ 30 := by
  match i with
  | 0 => decide
  | 1 => decide
  | 2 => decide
  | 3 => decide
  | i + 4 => exact ⟨by show (0 : Int) ≤ 30; decide, by show (30 : Int) ≤ 30; decide⟩
theorem off_up (i : Nat) (h : i < 4) : offT i < offT (i + 1) ∧ offT i + waitT (i : Int) = offT (i + 1) := by
  rcases (show i = 0 ∨ i = 1 ∨ i = 2 ∨ i = 3 by omega) with rfl | rfl | rfl | rfl <;> decide
/-- A try of the plan that failed. -/
theorem off_fail {now : Int} (h0 : 0 ≤ now) (h1 : now ≤ 549755813888) (i : Nat) (hi : i ≤ 4) : ∃ x0 x1 x2 : Int, failT now i (now + offT i) (now + offT i) = ((x0, x1, x2), decide (i = 4), 0) ∧ (i < 4 → x0 = now ∧ x1 = ((i + 1 : Nat) : Int) ∧ x2 = now + offT (i + 1)) := by
  obtain ⟨o1, o2⟩ := off_range i
  rcases ends_fail h0 h1 hi (show now ≤ now + offT i by omega) (Int.le_refl _) (show now + offT i ≤ now + 600000 by omega) with h | ⟨h4, wt, h, _, _, _⟩
  · by_cases h4 : i = 4
    · rw [decide_eq_true h4]
      exact ⟨0, 0, 0, h, fun h => by omega⟩
    · exfalso
      have hw := wait_few (t := (i : Int)) (by omega) (by omega)
      unfold failT at h
      split at h
      · exact absurd (Prod.mk.inj (Prod.mk.inj h).2).1 (by decide)
      · split at h
        · exact absurd (Prod.mk.inj (Prod.mk.inj h).2).1 (by decide)
        · rw [if_neg (by omega)] at h
          exact absurd (Prod.mk.inj (Prod.mk.inj h).2).1 (by decide)
  · have hu := off_up i h4
    have hwt : wt = waitT i := by
      unfold failT at h
      split at h
      · exact absurd (Prod.mk.inj (Prod.mk.inj h).2).2 (by decide)
      · split at h
        · exact absurd (Prod.mk.inj (Prod.mk.inj h).2).2 (by decide)
        · split at h
          · exact absurd (Prod.mk.inj (Prod.mk.inj h).2).1 (by decide)
          · have := (Prod.mk.inj (Prod.mk.inj (Prod.mk.inj h).1).2).2
            omega
    rw [decide_eq_false (show ¬ i = 4 by omega)]
    exact ⟨_, _, _, h, fun _ => ⟨rfl, by omega, by omega⟩⟩

theorem plans_next {w wr Wf : World} {B1 B2 T : Nat} {v1 v2 : Value} {l1 l2 : List Int} {b t d : Int} (h1 : TimesOwn wr B1 v1 l1) (h2 : TimesOwn wr B2 v2 l2) (ht : TurnAt wr T b t d) (hb : Below w.heap.size w wr) (hz : w.heap.size ≤ T) (hW : Below wr.heap.size wr Wf) (y0 y1 y2 : Int) :
    TimesOwn (putT3 Wf T y0 y1 y2) B1 v1 l1 ∧ TimesOwn (putT3 Wf T y0 y1 y2) B2 v2 l2 ∧ TurnAt (putT3 Wf T y0 y1 y2) T y0 y1 y2 ∧ Below w.heap.size w (putT3 Wf T y0 y1 y2) := by
  have htu : Turned (fun k => k = T) wr (putT3 Wf T y0 y1 y2) := by
    have q0 : Turned (fun k => k = T) wr Wf := .of_below hW (Nat.le_refl _)
    unfold putT3
    have q1 := q0.trans (Turned.set (S := fun k => k = T) (N := T) (j := 0) (v := .int .i64 y0) rfl) (fun _ h => .inl h)
    have q2 := q1.trans (Turned.set (S := fun k => k = T) (N := T) (j := 1) (v := .int .i64 y1) rfl) (fun _ h => .inl h)
    exact q2.trans (Turned.set (S := fun k => k = T) (N := T) (j := 2) (v := .int .i64 y2) rfl) (fun _ h => .inl h)
  have hap : ∀ (B : Nat) (v : Value) (l : List Int), TimesOwn wr B v l → ∀ k, v.ownBlock = some k → ¬ k = T := fun B v l h k hk e => by
    obtain ⟨_, cur, hc⟩ := row_block h hk
    rw [e, show wr.heap[T]? = _ from ht] at hc
    simp at hc
  exact ⟨htu.row h1 (hap _ _ _ h1), htu.row h2 (hap _ _ _ h2), (ht.below hW).put y0 y1 y2, hb.trans (htu.below hb.size fun k hk => by omega)⟩

set_option maxRecDepth 100000 in
set_option maxHeartbeats 8000000 in
theorem rplans_walk (now later : Int) (w : World) (hn0 : -9223372036854775808 ≤ now ∧ now ≤ 9223372036854775807) (hl0 : -9223372036854775808 ≤ later ∧ later ≤ 9223372036854775807) : Calls Try.prog 6 #[.int .i64 now, .int .i64 later] w fun e w' => e = .returned (.bool true) ∧ Below w.heap.size w w' := by
  have ha := awake15_any w
  by_cases h0 : now < 0
  · go_enter Try.func6, Try.ntmps6
    go_wp2_with fail
    refine ha.mono ?_
    rintro e w1 ⟨rfl, hb1⟩
    go_wp2
    go_ret
    exact ⟨rfl, hb1⟩
  by_cases h1 : later < 0
  · go_enter Try.func6, Try.ntmps6
    go_wp2_with fail
    refine ha.mono ?_
    rintro e w1 ⟨rfl, hb1⟩
    go_wp2
    go_ret
    exact ⟨rfl, hb1⟩
  by_cases h2 : 549755813888 < now
  · go_enter Try.func6, Try.ntmps6
    go_wp2_with fail
    refine ha.mono ?_
    rintro e w1 ⟨rfl, hb1⟩
    go_wp2
    go_ret
    exact ⟨rfl, hb1⟩
  by_cases h3 : 549755813888 < later
  · go_enter Try.func6, Try.ntmps6
    go_wp2_with fail
    refine ha.mono ?_
    rintro e w1 ⟨rfl, hb1⟩
    go_wp2
    go_ret
    exact ⟨rfl, hb1⟩
  have hpl : ∀ x : Int, 0 ≤ x → x ≤ 549755813888 → Hid (∀ W, Calls Try.prog 11 #[.int .i64 x] W fun r w' => ∃ ao cap, r = .returned (.slice ao 5 cap) ∧ TimesOwn w' W.heap.size (.slice ao 5 cap) [x, x + 2, x + 6, x + 14, x + 30] ∧ Below W.heap.size W w') := fun x p q => Lib.hid fun W => by
    have := rplan_row x W
    rw [plan_early p q] at this
    exact this
  have hp1 := hpl now (by omega) (by omega)
  have hp2 := hpl later (by omega) (by omega)
  have ht : timeT now = true := by
    unfold timeT
    rw [decide_eq_true (show 0 ≤ now by omega), decide_eq_true (show now ≤ 1099511627776 by omega)]
    rfl
  have hnw := newV_yes ht
  have hof := Lib.hid (fun i => off_fail (now := now) (by omega) (by omega) i)
  clear hpl ht
  go_enter Try.func6, Try.ntmps6
  go_wp2_with fail
  refine ha.mono ?_
  rintro e w1 ⟨rfl, hb1⟩
  have B1 := Lib.hid hb1
  clear ha hb1
  go_wp2_with fail
  refine (hp1.out _).mono ?_
  rintro e w2 ⟨ao1, cap1, rfl, ho1, hb⟩
  have K2 := Lib.hid (And.intro ho1 (B1.out.trans (hb.mono B1.out.size)))
  clear ho1 hb B1
  go_wp2_with fail
  refine (hp2.out _).mono ?_
  rintro e w3 ⟨ao2, cap2, rfl, ho2, hb⟩
  have K3 := Lib.hid (And.intro (K2.out.1.below hb) (And.intro ho2 (K2.out.2.trans (hb.mono K2.out.2.size))))
  clear ho2 hb K2
  go_wp2_with fail
  refine (hnw _).mono ?_
  rintro e w4 ⟨rfl, hb⟩
  have hb' := hb.alloc hb.size (.cells #[.int .i64 now, .int .i64 0, .int .i64 now] 23)
  have K4 := Lib.hid (And.intro (K3.out.1.below hb') (And.intro (K3.out.2.1.below hb') (And.intro (turn_new w4 now 0 now) (And.intro (K3.out.2.2.trans (hb'.mono K3.out.2.2.size)) (Nat.le_trans K3.out.2.2.size hb.size)))))
  have ltT : w4.heap.size < (w4.alloc (.cells #[.int .i64 now, .int .i64 0, .int .i64 now] 23)).heap.size := by simp
  clear hb hb' K3 hp1 hp2 hnw
  --@loop
  go_wp2
  go_loopw [9] (fun iv wr => ∃ i : Nat, i ≤ 5 ∧ iv = .int .i64 i ∧ Hid (TimesOwn wr w1.heap.size (.slice ao1 5 cap1) [now, now + 2, now + 6, now + 14, now + 30] ∧ TimesOwn wr w2.heap.size (.slice ao2 5 cap2) [later, later + 2, later + 6, later + 14, later + 30] ∧ (∃ b t d : Int, TurnAt wr w4.heap.size b t d ∧ (i < 5 → b = now ∧ t = i ∧ d = now + offT i)) ∧ Below w.heap.size w wr ∧ w.heap.size ≤ w4.heap.size)) (fun iv _ => 5 - (intOf iv).toNat)
  case atStart => exact ⟨0, by omega, rfl, Lib.hid ⟨K4.out.1, K4.out.2.1, ⟨now, 0, now, K4.out.2.2.1, fun _ => ⟨rfl, rfl, by show now = now + 0; omega⟩⟩, K4.out.2.2.2.1, K4.out.2.2.2.2⟩⟩
  case round =>
    clear K4
    obtain ⟨i, hi, rfl, hk⟩ := hrel
    by_cases hlt : i < 5
    · obtain ⟨b, t, d, htn, hbt⟩ := hk.out.2.2.1
      obtain ⟨rfl, rfl, rfl⟩ := hbt hlt
      obtain ⟨g1, rfl, _, _, m1, m2, z1⟩ := hk.out.1.cells i (by simpa using hlt)
      obtain ⟨g2, rfl, _, _, m3, m4, z2⟩ := hk.out.2.1.cells i (by simpa using hlt)
      unfold maxLen at m2 m4
      rw [off_at] at z1 z2
      obtain ⟨c0, c1, c2, _⟩ := htn.cells
      obtain ⟨o1, o2⟩ := off_range i
      have hltI : (i : Int) < (5 : Int) := by omega
      obtain ⟨x0, x1, x2, hfe, hfx⟩ := hof.out i (by omega)
      have hf : Hid (∀ W, Calls Try.prog 8 #[turnV b i (b + offT i), .int .i64 (b + offT i)] W fun e w' => e = .returned (.tuple #[turnV x0 x1 x2, .bool (decide (i = 4)), .int .i64 0]) ∧ Below W.heap.size W w') := Lib.hid fun W => by
        have := rfailed_any b i (b + offT i) (b + offT i) W
        rw [hfe] at this
        exact this
      clear hfe
      have hprev : Hid (∀ j, i = j + 1 → wr.cell? ⟨g1, j, none⟩ = some (.int .i64 (b + offT j)) ∧ offT j < offT i) := Lib.hid fun j hj => by
        obtain ⟨g', e', _, _, _, _, z⟩ := hk.out.1.cells j (by simp; omega)
        obtain rfl : g1 = g' := by cases e'; rfl
        rw [off_at] at z
        exact ⟨z, by rw [hj]; exact (off_up j (by omega)).1⟩
      obtain ⟨o, ho⟩ : ∃ o, offT i = o := ⟨_, rfl⟩
      rw [ho] at z1 z2 c2 o1 o2 hf hprev htn
      have HO := Lib.hid ho
      have hk2 := Lib.hid hk.out
      have htn2 := htn
      clear htn hbt ho hk
      have s1 : (IntKind.i64.wrap (b + o - b) != IntKind.i64.wrap (later + o - later)) = false := by
        rw [wrap_smallT (show 0 ≤ b + o - b by omega) (by omega), wrap_smallT (show 0 ≤ later + o - later by omega) (by omega), show b + o - b = later + o - later by omega]
        simp
      match i, hlt with
      | 0, _ =>
        have ex := hfx (by omega)
        rw [ex.1, show x1 = 1 from ex.2.1, ex.2.2] at hf
        clear ex hfx
        have HT := Lib.hid htn2
        clear htn2
        have hcl : Hid (∀ W, Below wr.heap.size wr W → (W.cell? ⟨g1, 0, none⟩ = some (.int .i64 (b + o)) ∧ W.cell? ⟨g2, 0, none⟩ = some (.int .i64 (later + o)) ∧ W.cell? ⟨w4.heap.size, 2, none⟩ = some (.int .i64 (b + o)) ∧ Below wr.heap.size wr W) ∧ (W.cell? ⟨w4.heap.size, 0, none⟩ = some (.int .i64 b) ∧ W.cell? ⟨w4.heap.size, 1, none⟩ = some (.int .i64 0) ∧ W.cell? ⟨w4.heap.size, 2, none⟩ = some (.int .i64 (b + o)) ∧ W.cell? ⟨g1, 0, none⟩ = some (.int .i64 (b + o)) ∧ Below wr.heap.size wr W)) := Lib.hid fun W hW => by
          have hc : ∀ g o v, wr.cell? ⟨g, o, none⟩ = some v → W.cell? ⟨g, o, none⟩ = some v := fun g o v h => (hW.cell (p := ⟨g, o, none⟩) (cell_lt15 h)).trans h
          exact ⟨⟨hc _ _ _ z1, hc _ _ _ z2, hc _ _ _ c2, hW⟩, hc _ _ _ c0, hc _ _ _ c1, hc _ _ _ c2, hc _ _ _ z1, hW⟩
        have hS0 := Lib.hid (hcl.out _ (Below.refl wr.heap.size wr)).1
        have hS1 := Lib.hid (hcl.out _ (Below.refl wr.heap.size wr).drew).1
        clear z1 z2 c0 c1 c2 hprev
        go_wp2_with fail
        refine wp_region_held_drew (S := (fun W => W.cell? ⟨g1, 0, none⟩ = some (.int .i64 (b + o)) ∧ W.cell? ⟨g2, 0, none⟩ = some (.int .i64 (later + o)) ∧ W.cell? ⟨w4.heap.size, 2, none⟩ = some (.int .i64 (b + o)) ∧ Below wr.heap.size wr W)) (by kernel_rfl) (by first | assumption | exact hS0.out | exact hS1.out) (fun hHeld => ?_)
        refine' wpAnyH_take (i := 0) (v := ?v0z0) ?hi0z0 (by kernel_rfl) (by kernel_rfl) (by kernel_rfl) ?hq0z0 (Or.inl ⟨?hw0z0, ?hy0z0⟩) (by assumption) ?hr0z0
        case hi0z0 => (simp only [List.getElem?_toArray, List.getElem?_cons_zero]; exact rfl)
        case hq0z0 => exact fun _ _ _ h => h
        case hw0z0 => rfl
        case hy0z0 =>
          intro wz hz
          (try dsimp only at hz)
          go_simp
          all_goals with_reducible rfl
        try simp only [Act.put, List.setIfInBounds_toArray, List.set_cons_zero, List.set_cons_succ]
        refine' wpAnyH_take (i := 1) (v := ?v1z0) ?hi1z0 (by kernel_rfl) (by kernel_rfl) (by kernel_rfl) ?hq1z0 (Or.inl ⟨?hw1z0, ?hy1z0⟩) (by assumption) ?hr1z0
        case hi1z0 => (simp only [List.getElem?_toArray, List.getElem?_cons_zero, List.getElem?_cons_succ]; exact rfl)
        case hq1z0 => exact fun _ _ _ h => h
        case hw1z0 => rfl
        case hy1z0 =>
          intro wz hz
          (try dsimp only at hz)
          go_simp
          all_goals with_reducible rfl
        try simp only [Act.put, List.setIfInBounds_toArray, List.set_cons_zero, List.set_cons_succ]
        refine' wpAnyH_take (i := 2) (v := ?v2z0) ?hi2z0 (by kernel_rfl) (by kernel_rfl) (by kernel_rfl) ?hq2z0 (Or.inl ⟨?hw2z0, ?hy2z0⟩) (by assumption) ?hr2z0
        case hi2z0 => (simp only [List.getElem?_toArray, List.getElem?_cons_zero, List.getElem?_cons_succ]; exact rfl)
        case hq2z0 => exact fun _ _ _ h => h
        case hw2z0 => rfl
        case hy2z0 =>
          intro wz hz
          (try dsimp only at hz)
          go_simp
          all_goals with_reducible rfl
        try simp only [Act.put, List.setIfInBounds_toArray, List.set_cons_zero, List.set_cons_succ]
        refine' wpAnyH_take (i := 3) (v := ?v3z0) ?hi3z0 (by kernel_rfl) (by kernel_rfl) (by kernel_rfl) ?hq3z0 (Or.inl ⟨?hw3z0, ?hy3z0⟩) (by assumption) ?hr3z0
        case hi3z0 => (simp only [List.getElem?_toArray, List.getElem?_cons_zero, List.getElem?_cons_succ]; exact rfl)
        case hq3z0 => exact fun _ _ _ h => h
        case hw3z0 => rfl
        case hy3z0 =>
          intro wz hz
          (try dsimp only at hz)
          go_simp
          all_goals with_reducible rfl
        try simp only [Act.put, List.setIfInBounds_toArray, List.set_cons_zero, List.set_cons_succ]
        refine' wpAnyH_take (i := 4) (v := ?v4z0) ?hi4z0 (by kernel_rfl) (by kernel_rfl) (by kernel_rfl) ?hq4z0 (Or.inl ⟨?hw4z0, ?hy4z0⟩) (by assumption) ?hr4z0
        case hi4z0 => (simp only [List.getElem?_toArray, List.getElem?_cons_zero, List.getElem?_cons_succ]; exact rfl)
        case hq4z0 => exact fun _ _ _ h => h
        case hw4z0 => rfl
        case hy4z0 =>
          intro wz hz
          (try dsimp only at hz)
          go_simp
          all_goals with_reducible rfl
        try simp only [Act.put, List.setIfInBounds_toArray, List.set_cons_zero, List.set_cons_succ]
        refine' wpAnyH_take (i := 5) (v := ?v5z0) ?hi5z0 (by kernel_rfl) (by kernel_rfl) (by kernel_rfl) ?hq5z0 (Or.inl ⟨?hw5z0, ?hy5z0⟩) (by assumption) ?hr5z0
        case hi5z0 => (simp only [List.getElem?_toArray, List.getElem?_cons_zero, List.getElem?_cons_succ]; exact rfl)
        case hq5z0 => exact fun _ _ _ h => h
        case hw5z0 => rfl
        case hy5z0 =>
          intro wz hz
          (try dsimp only at hz)
          go_simp
          all_goals with_reducible rfl
        try simp only [Act.put, List.setIfInBounds_toArray, List.set_cons_zero, List.set_cons_succ]
        refine' wpAnyH_take (i := 6) (v := ?v6z0) ?hi6z0 (by kernel_rfl) (by kernel_rfl) (by kernel_rfl) ?hq6z0 (Or.inl ⟨?hw6z0, ?hy6z0⟩) (by assumption) ?hr6z0
        case hi6z0 => (simp only [List.getElem?_toArray, List.getElem?_cons_zero, List.getElem?_cons_succ]; exact rfl)
        case hq6z0 => exact fun _ _ _ h => h
        case hw6z0 => rfl
        case hy6z0 =>
          intro wz hz
          (try dsimp only at hz)
          go_simp
          all_goals with_reducible rfl
        try simp only [Act.put, List.setIfInBounds_toArray, List.set_cons_zero, List.set_cons_succ]
        refine' wpAnyH_take (i := 7) (v := ?v7z0) ?hi7z0 (by kernel_rfl) (by kernel_rfl) (by kernel_rfl) ?hq7z0 (Or.inl ⟨?hw7z0, ?hy7z0⟩) (by assumption) ?hr7z0
        case hi7z0 => (simp only [List.getElem?_toArray, List.getElem?_cons_zero, List.getElem?_cons_succ]; exact rfl)
        case hq7z0 => exact fun _ _ _ h => h
        case hw7z0 => rfl
        case hy7z0 =>
          intro wz hz
          (try dsimp only at hz)
          go_simp
          all_goals with_reducible rfl
        try simp only [Act.put, List.setIfInBounds_toArray, List.set_cons_zero, List.set_cons_succ]
        refine' wpAnyH_take (i := 8) (v := ?v8z0) ?hi8z0 (by kernel_rfl) (by kernel_rfl) (by kernel_rfl) ?hq8z0 (Or.inl ⟨?hw8z0, ?hy8z0⟩) (by assumption) ?hr8z0
        case hi8z0 => (simp only [List.getElem?_toArray, List.getElem?_cons_zero, List.getElem?_cons_succ]; exact rfl)
        case hq8z0 => exact fun _ _ _ h => h
        case hw8z0 => rfl
        case hy8z0 =>
          intro wz hz
          (try dsimp only at hz)
          go_simp
          all_goals with_reducible rfl
        try simp only [Act.put, List.setIfInBounds_toArray, List.set_cons_zero, List.set_cons_succ]
        refine' wpAnyH_take (i := 9) (v := ?v9z0) ?hi9z0 (by kernel_rfl) (by kernel_rfl) (by kernel_rfl) ?hq9z0 (Or.inl ⟨?hw9z0, ?hy9z0⟩) (by assumption) ?hr9z0
        case hi9z0 => (simp only [List.getElem?_toArray, List.getElem?_cons_zero, List.getElem?_cons_succ]; exact rfl)
        case hq9z0 => exact fun _ _ _ h => h
        case hw9z0 => rfl
        case hy9z0 =>
          intro wz hz
          (try dsimp only at hz)
          go_simp
          all_goals with_reducible rfl
        try simp only [Act.put, List.setIfInBounds_toArray, List.set_cons_zero, List.set_cons_succ]
        refine' wpAnyH_take (i := 10) (v := ?v10z0) ?hi10z0 (by kernel_rfl) (by kernel_rfl) (by kernel_rfl) ?hq10z0 (Or.inl ⟨?hw10z0, ?hy10z0⟩) (by assumption) ?hr10z0
        case hi10z0 => (simp only [List.getElem?_toArray, List.getElem?_cons_zero, List.getElem?_cons_succ]; exact rfl)
        case hq10z0 => exact fun _ _ _ h => h
        case hw10z0 => rfl
        case hy10z0 =>
          intro wz hz
          (try dsimp only at hz)
          go_simp
          all_goals with_reducible rfl
        try simp only [Act.put, List.setIfInBounds_toArray, List.set_cons_zero, List.set_cons_succ]
        refine' wpAnyH_take (i := 11) (v := ?v11z0) ?hi11z0 (by kernel_rfl) (by kernel_rfl) (by kernel_rfl) ?hq11z0 (Or.inl ⟨?hw11z0, ?hy11z0⟩) (by assumption) ?hr11z0
        case hi11z0 => (simp only [List.getElem?_toArray, List.getElem?_cons_zero, List.getElem?_cons_succ]; exact rfl)
        case hq11z0 => exact fun _ _ _ h => h
        case hw11z0 => rfl
        case hy11z0 =>
          intro wz hz
          (try dsimp only at hz)
          go_simp
          all_goals with_reducible rfl
        try simp only [Act.put, List.setIfInBounds_toArray, List.set_cons_zero, List.set_cons_succ]
        refine' wpAnyH_take (i := 12) (v := ?v12z0) ?hi12z0 (by kernel_rfl) (by kernel_rfl) (by kernel_rfl) ?hq12z0 (Or.inl ⟨?hw12z0, ?hy12z0⟩) (by assumption) ?hr12z0
        case hi12z0 => (simp only [List.getElem?_toArray, List.getElem?_cons_zero, List.getElem?_cons_succ]; exact rfl)
        case hq12z0 => exact fun _ _ _ h => h
        case hw12z0 => rfl
        case hy12z0 =>
          intro wz hz
          (try dsimp only at hz)
          go_simp
          all_goals with_reducible rfl
        try simp only [Act.put, List.setIfInBounds_toArray, List.set_cons_zero, List.set_cons_succ]
        refine' wpAnyH_take (i := 13) (v := ?v13z0) ?hi13z0 (by kernel_rfl) (by kernel_rfl) (by kernel_rfl) ?hq13z0 (Or.inl ⟨?hw13z0, ?hy13z0⟩) (by assumption) ?hr13z0
        case hi13z0 => (simp only [List.getElem?_toArray, List.getElem?_cons_zero, List.getElem?_cons_succ]; exact rfl)
        case hq13z0 => exact fun _ _ _ h => h
        case hw13z0 => rfl
        case hy13z0 =>
          intro wz hz
          (try dsimp only at hz)
          go_simp
          all_goals with_reducible rfl
        try simp only [Act.put, List.setIfInBounds_toArray, List.set_cons_zero, List.set_cons_succ]
        refine' wpAnyH_take (i := 14) (v := ?v14z0) ?hi14z0 (by kernel_rfl) (by kernel_rfl) (by kernel_rfl) ?hq14z0 (Or.inl ⟨?hw14z0, ?hy14z0⟩) (by assumption) ?hr14z0
        case hi14z0 => (simp only [List.getElem?_toArray, List.getElem?_cons_zero, List.getElem?_cons_succ]; exact rfl)
        case hq14z0 => exact fun _ _ _ h => h
        case hw14z0 => rfl
        case hy14z0 =>
          intro wz hz
          (try dsimp only at hz)
          go_simp
          all_goals with_reducible rfl
        try simp only [Act.put, List.setIfInBounds_toArray, List.set_cons_zero, List.set_cons_succ]
        refine' wpAnyH_take (i := 15) (v := ?v15z0) ?hi15z0 (by kernel_rfl) (by kernel_rfl) (by kernel_rfl) ?hq15z0 (Or.inl ⟨?hw15z0, ?hy15z0⟩) (by assumption) ?hr15z0
        case hi15z0 => (simp only [List.getElem?_toArray, List.getElem?_cons_zero, List.getElem?_cons_succ]; exact rfl)
        case hq15z0 => exact fun _ _ _ h => h
        case hw15z0 => rfl
        case hy15z0 =>
          intro wz hz
          (try dsimp only at hz)
          go_simp
          all_goals with_reducible rfl
        try simp only [Act.put, List.setIfInBounds_toArray, List.set_cons_zero, List.set_cons_succ]
        refine' wpAnyH_take (i := 16) (v := ?v16z0) ?hi16z0 (by kernel_rfl) (by kernel_rfl) (by kernel_rfl) ?hq16z0 (Or.inl ⟨?hw16z0, ?hy16z0⟩) (by assumption) ?hr16z0
        case hi16z0 => (simp only [List.getElem?_toArray, List.getElem?_cons_zero, List.getElem?_cons_succ]; exact rfl)
        case hq16z0 => exact fun _ _ _ h => h
        case hw16z0 => rfl
        case hy16z0 =>
          intro wz hz
          (try dsimp only at hz)
          go_simp
          all_goals with_reducible rfl
        try simp only [Act.put, List.setIfInBounds_toArray, List.set_cons_zero, List.set_cons_succ]
        refine' wpAnyH_take (i := 17) (v := ?v17z0) ?hi17z0 (by kernel_rfl) (by kernel_rfl) (by kernel_rfl) ?hq17z0 (Or.inl ⟨?hw17z0, ?hy17z0⟩) (by assumption) ?hr17z0
        case hi17z0 => (simp only [List.getElem?_toArray, List.getElem?_cons_zero, List.getElem?_cons_succ]; exact rfl)
        case hq17z0 => exact fun _ _ _ h => h
        case hw17z0 => rfl
        case hy17z0 =>
          intro wz hz
          (try dsimp only at hz)
          go_simp
          all_goals with_reducible rfl
        try simp only [Act.put, List.setIfInBounds_toArray, List.set_cons_zero, List.set_cons_succ]
        refine' wpAnyH_take (i := 18) (v := ?v18z0) ?hi18z0 (by kernel_rfl) (by kernel_rfl) (by kernel_rfl) ?hq18z0 (Or.inl ⟨?hw18z0, ?hy18z0⟩) (by assumption) ?hr18z0
        case hi18z0 => (simp only [List.getElem?_toArray, List.getElem?_cons_zero, List.getElem?_cons_succ]; exact rfl)
        case hq18z0 => exact fun _ _ _ h => h
        case hw18z0 => rfl
        case hy18z0 =>
          intro wz hz
          (try dsimp only at hz)
          go_simp
          all_goals with_reducible rfl
        try simp only [Act.put, List.setIfInBounds_toArray, List.set_cons_zero, List.set_cons_succ]
        refine' wpAnyH_take (i := 19) (v := ?v19z0) ?hi19z0 (by kernel_rfl) (by kernel_rfl) (by kernel_rfl) ?hq19z0 (Or.inl ⟨?hw19z0, ?hy19z0⟩) (by assumption) ?hr19z0
        case hi19z0 => (simp only [List.getElem?_toArray, List.getElem?_cons_zero, List.getElem?_cons_succ]; exact rfl)
        case hq19z0 => exact fun _ _ _ h => h
        case hw19z0 => rfl
        case hy19z0 =>
          intro wz hz
          (try dsimp only at hz)
          go_simp
          all_goals with_reducible rfl
        try simp only [Act.put, List.setIfInBounds_toArray, List.set_cons_zero, List.set_cons_succ]
        refine' wpAnyH_take (i := 20) (v := ?v20z0) ?hi20z0 (by kernel_rfl) (by kernel_rfl) (by kernel_rfl) ?hq20z0 (Or.inl ⟨?hw20z0, ?hy20z0⟩) (by assumption) ?hr20z0
        case hi20z0 => (simp only [List.getElem?_toArray, List.getElem?_cons_zero, List.getElem?_cons_succ]; exact rfl)
        case hq20z0 => exact fun _ _ _ h => h
        case hw20z0 => rfl
        case hy20z0 =>
          intro wz hz
          (try dsimp only at hz)
          go_simp
          all_goals with_reducible rfl
        try simp only [Act.put, List.setIfInBounds_toArray, List.set_cons_zero, List.set_cons_succ]
        refine' wpAnyH_take (i := 21) (v := ?v21z0) ?hi21z0 (by kernel_rfl) (by kernel_rfl) (by kernel_rfl) ?hq21z0 (Or.inl ⟨?hw21z0, ?hy21z0⟩) (by assumption) ?hr21z0
        case hi21z0 => (simp only [List.getElem?_toArray, List.getElem?_cons_zero, List.getElem?_cons_succ]; exact rfl)
        case hq21z0 => exact fun _ _ _ h => h
        case hw21z0 => rfl
        case hy21z0 =>
          intro wz hz
          (try dsimp only at hz)
          go_simp
          all_goals with_reducible rfl
        try simp only [Act.put, List.setIfInBounds_toArray, List.set_cons_zero, List.set_cons_succ]
        refine' wpAnyH_take (i := 22) (v := ?v22z0) ?hi22z0 (by kernel_rfl) (by kernel_rfl) (by kernel_rfl) ?hq22z0 (Or.inl ⟨?hw22z0, ?hy22z0⟩) (by assumption) ?hr22z0
        case hi22z0 => (simp only [List.getElem?_toArray, List.getElem?_cons_zero, List.getElem?_cons_succ]; exact rfl)
        case hq22z0 => exact fun _ _ _ h => h
        case hw22z0 => rfl
        case hy22z0 =>
          intro wz hz
          (try dsimp only at hz)
          go_simp
          all_goals with_reducible rfl
        try simp only [Act.put, List.setIfInBounds_toArray, List.set_cons_zero, List.set_cons_succ]
        refine' wpAnyH_take (i := 23) (v := ?v23z0) ?hi23z0 (by kernel_rfl) (by kernel_rfl) (by kernel_rfl) ?hq23z0 (Or.inl ⟨?hw23z0, ?hy23z0⟩) (by assumption) ?hr23z0
        case hi23z0 => (simp only [List.getElem?_toArray, List.getElem?_cons_zero, List.getElem?_cons_succ]; exact rfl)
        case hq23z0 => exact fun _ _ _ h => h
        case hw23z0 => rfl
        case hy23z0 =>
          intro wz hz
          (try dsimp only at hz)
          go_simp
          all_goals with_reducible rfl
        try simp only [Act.put, List.setIfInBounds_toArray, List.set_cons_zero, List.set_cons_succ]
        refine' wpAnyH_take (i := 24) (v := ?v24z0) ?hi24z0 (by kernel_rfl) (by kernel_rfl) (by kernel_rfl) ?hq24z0 (Or.inl ⟨?hw24z0, ?hy24z0⟩) (by assumption) ?hr24z0
        case hi24z0 => (simp only [List.getElem?_toArray, List.getElem?_cons_zero, List.getElem?_cons_succ]; exact rfl)
        case hq24z0 => exact fun _ _ _ h => h
        case hw24z0 => rfl
        case hy24z0 =>
          intro wz hz
          (try dsimp only at hz)
          go_simp
          all_goals with_reducible rfl
        try simp only [Act.put, List.setIfInBounds_toArray, List.set_cons_zero, List.set_cons_succ]
        refine' wpAnyH_take (i := 25) (v := ?v25z0) ?hi25z0 (by kernel_rfl) (by kernel_rfl) (by kernel_rfl) ?hq25z0 (Or.inl ⟨?hw25z0, ?hy25z0⟩) (by assumption) ?hr25z0
        case hi25z0 => (simp only [List.getElem?_toArray, List.getElem?_cons_zero, List.getElem?_cons_succ]; exact rfl)
        case hq25z0 => exact fun _ _ _ h => h
        case hw25z0 => rfl
        case hy25z0 =>
          intro wz hz
          (try dsimp only at hz)
          go_simp
          all_goals with_reducible rfl
        try simp only [Act.put, List.setIfInBounds_toArray, List.set_cons_zero, List.set_cons_succ]
        refine' wpAnyH_take (i := 26) (v := undef) ?hi26z0 (by kernel_rfl) (by kernel_rfl) (by kernel_rfl) ?hq26z0 (Or.inr ⟨?hw26z0, rfl⟩) (by assumption) ?hr26z0
        case hi26z0 => (simp only [List.getElem?_toArray, List.getElem?_cons_zero, List.getElem?_cons_succ]; exact rfl)
        case hq26z0 => exact fun _ _ _ h => h
        case hw26z0 => rfl
        try simp only [Act.put, List.setIfInBounds_toArray, List.set_cons_zero, List.set_cons_succ]
        refine' wpAnyH_take (i := 27) (v := undef) ?hi27z0 (by kernel_rfl) (by kernel_rfl) (by kernel_rfl) ?hq27z0 (Or.inr ⟨?hw27z0, rfl⟩) (by assumption) ?hr27z0
        case hi27z0 => (simp only [List.getElem?_toArray, List.getElem?_cons_zero, List.getElem?_cons_succ]; exact rfl)
        case hq27z0 => exact fun _ _ _ h => h
        case hw27z0 => rfl
        try simp only [Act.put, List.setIfInBounds_toArray, List.set_cons_zero, List.set_cons_succ]
        refine' wpAnyH_take (i := 28) (v := undef) ?hi28z0 (by kernel_rfl) (by kernel_rfl) (by kernel_rfl) ?hq28z0 (Or.inr ⟨?hw28z0, rfl⟩) (by assumption) ?hr28z0
        case hi28z0 => (simp only [List.getElem?_toArray, List.getElem?_cons_zero, List.getElem?_cons_succ]; exact rfl)
        case hq28z0 => exact fun _ _ _ h => h
        case hw28z0 => rfl
        try simp only [Act.put, List.setIfInBounds_toArray, List.set_cons_zero, List.set_cons_succ]
        refine' wpAnyH_take (i := 29) (v := undef) ?hi29z0 (by kernel_rfl) (by kernel_rfl) (by kernel_rfl) ?hq29z0 (Or.inr ⟨?hw29z0, rfl⟩) (by assumption) ?hr29z0
        case hi29z0 => (simp only [List.getElem?_toArray, List.getElem?_cons_zero, List.getElem?_cons_succ]; exact rfl)
        case hq29z0 => exact fun _ _ _ h => h
        case hw29z0 => rfl
        try simp only [Act.put, List.setIfInBounds_toArray, List.set_cons_zero, List.set_cons_succ]
        refine' wpAnyH_take (i := 30) (v := undef) ?hi30z0 (by kernel_rfl) (by kernel_rfl) (by kernel_rfl) ?hq30z0 (Or.inr ⟨?hw30z0, rfl⟩) (by assumption) ?hr30z0
        case hi30z0 => (simp only [List.getElem?_toArray, List.getElem?_cons_zero, List.getElem?_cons_succ]; exact rfl)
        case hq30z0 => exact fun _ _ _ h => h
        case hw30z0 => rfl
        try simp only [Act.put, List.setIfInBounds_toArray, List.set_cons_zero, List.set_cons_succ]
        refine' wpAnyH_take (i := 31) (v := undef) ?hi31z0 (by kernel_rfl) (by kernel_rfl) (by kernel_rfl) ?hq31z0 (Or.inr ⟨?hw31z0, rfl⟩) (by assumption) ?hr31z0
        case hi31z0 => (simp only [List.getElem?_toArray, List.getElem?_cons_zero, List.getElem?_cons_succ]; exact rfl)
        case hq31z0 => exact fun _ _ _ h => h
        case hw31z0 => rfl
        try simp only [Act.put, List.setIfInBounds_toArray, List.set_cons_zero, List.set_cons_succ]
        refine' wpAnyH_take (i := 32) (v := undef) ?hi32z0 (by kernel_rfl) (by kernel_rfl) (by kernel_rfl) ?hq32z0 (Or.inr ⟨?hw32z0, rfl⟩) (by assumption) ?hr32z0
        case hi32z0 => (simp only [List.getElem?_toArray, List.getElem?_cons_zero, List.getElem?_cons_succ]; exact rfl)
        case hq32z0 => exact fun _ _ _ h => h
        case hw32z0 => rfl
        try simp only [Act.put, List.setIfInBounds_toArray, List.set_cons_zero, List.set_cons_succ]
        refine' wpAnyH_take (i := 33) (v := undef) ?hi33z0 (by kernel_rfl) (by kernel_rfl) (by kernel_rfl) ?hq33z0 (Or.inr ⟨?hw33z0, rfl⟩) (by assumption) ?hr33z0
        case hi33z0 => (simp only [List.getElem?_toArray, List.getElem?_cons_zero, List.getElem?_cons_succ]; exact rfl)
        case hq33z0 => exact fun _ _ _ h => h
        case hw33z0 => rfl
        try simp only [Act.put, List.setIfInBounds_toArray, List.set_cons_zero, List.set_cons_succ]
        refine' wpAnyH_take (i := 34) (v := undef) ?hi34z0 (by kernel_rfl) (by kernel_rfl) (by kernel_rfl) ?hq34z0 (Or.inr ⟨?hw34z0, rfl⟩) (by assumption) ?hr34z0
        case hi34z0 => (simp only [List.getElem?_toArray, List.getElem?_cons_zero, List.getElem?_cons_succ]; exact rfl)
        case hq34z0 => exact fun _ _ _ h => h
        case hw34z0 => rfl
        try simp only [Act.put, List.setIfInBounds_toArray, List.set_cons_zero, List.set_cons_succ]
        refine' wpAnyH_take (i := 35) (v := undef) ?hi35z0 (by kernel_rfl) (by kernel_rfl) (by kernel_rfl) ?hq35z0 (Or.inr ⟨?hw35z0, rfl⟩) (by assumption) ?hr35z0
        case hi35z0 => (simp only [List.getElem?_toArray, List.getElem?_cons_zero, List.getElem?_cons_succ]; exact rfl)
        case hq35z0 => exact fun _ _ _ h => h
        case hw35z0 => rfl
        try simp only [Act.put, List.setIfInBounds_toArray, List.set_cons_zero, List.set_cons_succ]
        refine' wpAnyH_take (i := 36) (v := ?v36z0) ?hi36z0 (by kernel_rfl) (by kernel_rfl) (by kernel_rfl) ?hq36z0 (Or.inl ⟨?hw36z0, ?hy36z0⟩) (by assumption) ?hr36z0
        case hi36z0 => (simp only [List.getElem?_toArray, List.getElem?_cons_zero, List.getElem?_cons_succ]; exact rfl)
        case hq36z0 => exact fun _ _ _ h => h
        case hw36z0 => rfl
        case hy36z0 =>
          intro wz hz
          (try dsimp only at hz)
          go_simp
          all_goals with_reducible rfl
        try simp only [Act.put, List.setIfInBounds_toArray, List.set_cons_zero, List.set_cons_succ]
        refine' wpAnyH_take (i := 37) (v := ?v37z0) ?hi37z0 (by kernel_rfl) (by kernel_rfl) (by kernel_rfl) ?hq37z0 (Or.inl ⟨?hw37z0, ?hy37z0⟩) (by assumption) ?hr37z0
        case hi37z0 => (simp only [List.getElem?_toArray, List.getElem?_cons_zero, List.getElem?_cons_succ]; exact rfl)
        case hq37z0 => exact fun _ _ _ h => h
        case hw37z0 => rfl
        case hy37z0 =>
          intro wz hz
          (try dsimp only at hz)
          go_simp
          all_goals with_reducible rfl
        try simp only [Act.put, List.setIfInBounds_toArray, List.set_cons_zero, List.set_cons_succ]
        refine wpAnyH_done (by kernel_rfl) ?_ _
        have hS2 := Lib.hid (hcl.out _ (Below.refl wr.heap.size wr).drew).2
        have hS3 := Lib.hid (hcl.out _ ((Below.refl wr.heap.size wr).drew).drew).2
        have hS6 := Lib.hid (hcl.out _ (((Below.refl wr.heap.size wr).alloc (Nat.le_refl _) (.cells #[.int .i64 0, .int .i64 0, .int .i64 0] 23)).drew).drew).2
        have hS7 := Lib.hid (hcl.out _ ((Below.refl wr.heap.size wr).alloc (Nat.le_refl _) (.cells #[.int .i64 0, .int .i64 0, .int .i64 0] 23)).drew).2
        have hf2 : Hid (∀ W, (W.cell? ⟨w4.heap.size, 0, none⟩ = some (.int .i64 b) ∧ W.cell? ⟨w4.heap.size, 1, none⟩ = some (.int .i64 0) ∧ W.cell? ⟨w4.heap.size, 2, none⟩ = some (.int .i64 (b + o)) ∧ W.cell? ⟨g1, 0, none⟩ = some (.int .i64 (b + o)) ∧ Below wr.heap.size wr W) → Calls Try.prog 8 #[turnV b 0 (b + o), .int .i64 (b + o)] W fun e w' => e = .returned (.tuple #[turnV b 1 (b + offT 1), .bool false, .int .i64 0]) ∧ (w'.cell? ⟨w4.heap.size, 0, none⟩ = some (.int .i64 b) ∧ w'.cell? ⟨w4.heap.size, 1, none⟩ = some (.int .i64 0) ∧ w'.cell? ⟨w4.heap.size, 2, none⟩ = some (.int .i64 (b + o)) ∧ w'.cell? ⟨g1, 0, none⟩ = some (.int .i64 (b + o)) ∧ Below wr.heap.size wr w') ∧ Below W.heap.size W w') := Lib.hid fun W hW => by
          refine (hf.out W).mono fun e w' ⟨h1, h2⟩ => ⟨h1, (hcl.out _ ?_).2, h2⟩
          exact hW.2.2.2.2.trans (h2.mono hW.2.2.2.2.size)
        have hal : Hid (∀ W ob, (W.cell? ⟨w4.heap.size, 0, none⟩ = some (.int .i64 b) ∧ W.cell? ⟨w4.heap.size, 1, none⟩ = some (.int .i64 0) ∧ W.cell? ⟨w4.heap.size, 2, none⟩ = some (.int .i64 (b + o)) ∧ W.cell? ⟨g1, 0, none⟩ = some (.int .i64 (b + o)) ∧ Below wr.heap.size wr W) → ((W.alloc ob).cell? ⟨w4.heap.size, 0, none⟩ = some (.int .i64 b) ∧ (W.alloc ob).cell? ⟨w4.heap.size, 1, none⟩ = some (.int .i64 0) ∧ (W.alloc ob).cell? ⟨w4.heap.size, 2, none⟩ = some (.int .i64 (b + o)) ∧ (W.alloc ob).cell? ⟨g1, 0, none⟩ = some (.int .i64 (b + o)) ∧ Below wr.heap.size wr (W.alloc ob))) := Lib.hid fun W ob hW => (hcl.out _ (hW.2.2.2.2.alloc hW.2.2.2.2.size ob)).2
        have hst : Hid (∀ W (nb : Nat) (y0 y1 y2 : Int), wr.heap.size ≤ nb → (W.cell? ⟨w4.heap.size, 0, none⟩ = some (.int .i64 b) ∧ W.cell? ⟨w4.heap.size, 1, none⟩ = some (.int .i64 0) ∧ W.cell? ⟨w4.heap.size, 2, none⟩ = some (.int .i64 (b + o)) ∧ W.cell? ⟨g1, 0, none⟩ = some (.int .i64 (b + o)) ∧ Below wr.heap.size wr W) → ((putT3 W nb y0 y1 y2).cell? ⟨w4.heap.size, 0, none⟩ = some (.int .i64 b) ∧ (putT3 W nb y0 y1 y2).cell? ⟨w4.heap.size, 1, none⟩ = some (.int .i64 0) ∧ (putT3 W nb y0 y1 y2).cell? ⟨w4.heap.size, 2, none⟩ = some (.int .i64 (b + o)) ∧ (putT3 W nb y0 y1 y2).cell? ⟨g1, 0, none⟩ = some (.int .i64 (b + o)) ∧ Below wr.heap.size wr (putT3 W nb y0 y1 y2))) := Lib.hid fun W nb y0 y1 y2 hnb hW => (hcl.out _ (putT3_below hW.2.2.2.2 hnb y0 y1 y2)).2
        unfold putT3 at hst
        clear hS0 hS1 hf hcl
        go_wp2_with fail
        refine wp_region_held_drew (S := (fun W => W.cell? ⟨w4.heap.size, 0, none⟩ = some (.int .i64 b) ∧ W.cell? ⟨w4.heap.size, 1, none⟩ = some (.int .i64 0) ∧ W.cell? ⟨w4.heap.size, 2, none⟩ = some (.int .i64 (b + o)) ∧ W.cell? ⟨g1, 0, none⟩ = some (.int .i64 (b + o)) ∧ Below wr.heap.size wr W)) (by kernel_rfl) (by first | assumption | exact hS2.out | exact hS3.out) (fun hHeld => ?_)
        refine' wpAnyH_take (i := 0) (v := ?v0y0) ?hi0y0 (by kernel_rfl) (by kernel_rfl) (by kernel_rfl) ?hq0y0 (Or.inl ⟨?hw0y0, ?hy0y0⟩) (by assumption) ?hr0y0
        case hi0y0 => (simp only [List.getElem?_toArray, List.getElem?_cons_zero]; exact rfl)
        case hq0y0 => exact fun _ _ _ h => h
        case hw0y0 => rfl
        case hy0y0 =>
          intro wz hz
          (try dsimp only at hz)
          go_simp
          all_goals with_reducible rfl
        try simp only [Act.put, List.setIfInBounds_toArray, List.set_cons_zero, List.set_cons_succ]
        refine' wpAnyH_take (i := 1) (v := ?v1y0) ?hi1y0 (by kernel_rfl) (by kernel_rfl) (by kernel_rfl) ?hq1y0 (Or.inl ⟨?hw1y0, ?hy1y0⟩) (by assumption) ?hr1y0
        case hi1y0 => (simp only [List.getElem?_toArray, List.getElem?_cons_zero, List.getElem?_cons_succ]; exact rfl)
        case hq1y0 => exact fun _ _ _ h => h
        case hw1y0 => rfl
        case hy1y0 =>
          intro wz hz
          (try dsimp only at hz)
          go_simp
          all_goals with_reducible rfl
        try simp only [Act.put, List.setIfInBounds_toArray, List.set_cons_zero, List.set_cons_succ]
        refine' wpAnyH_take (i := 2) (v := ?v2y0) ?hi2y0 (by kernel_rfl) (by kernel_rfl) (by kernel_rfl) ?hq2y0 (Or.inl ⟨?hw2y0, ?hy2y0⟩) (by assumption) ?hr2y0
        case hi2y0 => (simp only [List.getElem?_toArray, List.getElem?_cons_zero, List.getElem?_cons_succ]; exact rfl)
        case hq2y0 => exact fun _ _ _ h => h
        case hw2y0 => rfl
        case hy2y0 =>
          intro wz hz
          (try dsimp only at hz)
          go_simp
          all_goals with_reducible rfl
        try simp only [Act.put, List.setIfInBounds_toArray, List.set_cons_zero, List.set_cons_succ]
        refine' wpAnyH_take (i := 3) (v := ?v3y0) ?hi3y0 (by kernel_rfl) (by kernel_rfl) (by kernel_rfl) ?hq3y0 (Or.inl ⟨?hw3y0, ?hy3y0⟩) (by assumption) ?hr3y0
        case hi3y0 => (simp only [List.getElem?_toArray, List.getElem?_cons_zero, List.getElem?_cons_succ]; exact rfl)
        case hq3y0 => exact fun _ _ _ h => h
        case hw3y0 => rfl
        case hy3y0 =>
          intro wz hz
          (try dsimp only at hz)
          go_simp
          all_goals with_reducible rfl
        try simp only [Act.put, List.setIfInBounds_toArray, List.set_cons_zero, List.set_cons_succ]
        refine' wpAnyH_take (i := 4) (v := ?v4y0) ?hi4y0 (by kernel_rfl) (by kernel_rfl) (by kernel_rfl) ?hq4y0 (Or.inl ⟨?hw4y0, ?hy4y0⟩) (by assumption) ?hr4y0
        case hi4y0 => (simp only [List.getElem?_toArray, List.getElem?_cons_zero, List.getElem?_cons_succ]; exact rfl)
        case hq4y0 => exact fun _ _ _ h => h
        case hw4y0 => rfl
        case hy4y0 =>
          intro wz hz
          (try dsimp only at hz)
          go_simp
          all_goals with_reducible rfl
        try simp only [Act.put, List.setIfInBounds_toArray, List.set_cons_zero, List.set_cons_succ]
        refine wpAnyH_ready (rs := [5, 10]) (by kernel_rfl) (by simp) ?_
        refine AllReadyH.cons (o := ?hoA0) ?hioA0 (fun KA hKA => ?hsA0) ?hmA0
        case hioA0 => (simp only [List.getElem?_toArray, List.getElem?_cons_zero, List.getElem?_cons_succ]; exact rfl)
        case hsA0 =>
          go_simp
          go_at_call 8
          with_reducible refine (hf2.out _ ?_).mono ?_
          · assumption
          rintro e w5 ⟨rfl, hS5, hb5⟩
          refine hKA.out _ _ hS5 (fun hHeld5 => ?_)
          try simp only [Act.put, List.setIfInBounds_toArray, List.set_cons_zero, List.set_cons_succ]
          refine' wpAnyH_take (i := 6) (v := ?v6yA0) ?hi6yA0 (by kernel_rfl) (by kernel_rfl) (by kernel_rfl) ?hq6yA0 (Or.inl ⟨?hw6yA0, ?hy6yA0⟩) (by assumption) ?hr6yA0
          case hi6yA0 => (simp only [List.getElem?_toArray, List.getElem?_cons_zero, List.getElem?_cons_succ]; exact rfl)
          case hq6yA0 => exact fun _ _ _ h => h
          case hw6yA0 => rfl
          case hy6yA0 =>
            intro wz hz
            (try dsimp only at hz)
            go_simp
            all_goals with_reducible rfl
          try simp only [Act.put, List.setIfInBounds_toArray, List.set_cons_zero, List.set_cons_succ]
          refine' wpAnyH_take (i := 7) (v := ?v7yA0) ?hi7yA0 (by kernel_rfl) (by kernel_rfl) (by kernel_rfl) ?hq7yA0 (Or.inl ⟨?hw7yA0, ?hy7yA0⟩) (by assumption) ?hr7yA0
          case hi7yA0 => (simp only [List.getElem?_toArray, List.getElem?_cons_zero, List.getElem?_cons_succ]; exact rfl)
          case hq7yA0 => exact fun _ _ _ h => h
          case hw7yA0 => rfl
          case hy7yA0 =>
            intro wz hz
            (try dsimp only at hz)
            go_simp
            all_goals with_reducible rfl
          try simp only [Act.put, List.setIfInBounds_toArray, List.set_cons_zero, List.set_cons_succ]
          refine' wpAnyH_take (i := 8) (v := ?v8yA0) ?hi8yA0 (by kernel_rfl) (by kernel_rfl) (by kernel_rfl) ?hq8yA0 (Or.inl ⟨?hw8yA0, ?hy8yA0⟩) (by assumption) ?hr8yA0
          case hi8yA0 => (simp only [List.getElem?_toArray, List.getElem?_cons_zero, List.getElem?_cons_succ]; exact rfl)
          case hq8yA0 => exact fun _ _ _ h => h
          case hw8yA0 => rfl
          case hy8yA0 =>
            intro wz hz
            (try dsimp only at hz)
            go_simp
            all_goals with_reducible rfl
          try simp only [Act.put, List.setIfInBounds_toArray, List.set_cons_zero, List.set_cons_succ]
          refine' wpAnyH_take (i := 9) (v := ?v9yA0) ?hi9yA0 (by kernel_rfl) (by kernel_rfl) (by kernel_rfl) ?hq9yA0 (Or.inl ⟨?hw9yA0, ?hy9yA0⟩) (by assumption) ?hr9yA0
          case hi9yA0 => (simp only [List.getElem?_toArray, List.getElem?_cons_zero, List.getElem?_cons_succ]; exact rfl)
          case hq9yA0 => exact fun _ _ _ h => h
          case hw9yA0 => rfl
          case hy9yA0 =>
            intro wz hz
            (try dsimp only at hz)
            go_simp
            all_goals with_reducible rfl
          try simp only [Act.put, List.setIfInBounds_toArray, List.set_cons_zero, List.set_cons_succ]
          refine wpAnyH_ready (rs := [10]) (by kernel_rfl) (by simp) ?_
          refine AllReadyH.cons (o := ?hoB0) ?hioB0 (fun KB hKB => ?hsB0) AllReadyH.nil
          case hioB0 => (simp only [List.getElem?_toArray, List.getElem?_cons_zero, List.getElem?_cons_succ]; exact rfl)
          case hsB0 =>
            go_simp
            refine hKB.out _ _ (hal.out _ _ hS5) (fun hHeldB => ?_)
            try simp only [Act.put, List.setIfInBounds_toArray, List.set_cons_zero, List.set_cons_succ]
            refine wpAnyH_ready (rs := [11]) (by kernel_rfl) (by simp) ?_
            refine AllReadyH.cons (o := ?hoC0) ?hioC0 (fun KC hKC => ?hsC0) AllReadyH.nil
            case hioC0 => (simp only [List.getElem?_toArray, List.getElem?_cons_zero, List.getElem?_cons_succ]; exact rfl)
            case hsC0 =>
              go_simp
              refine hKC.out _ _ (hal.out _ _ hS5) (fun hHeldC => ?_)
              try simp only [Act.put, List.setIfInBounds_toArray, List.set_cons_zero, List.set_cons_succ]
              refine' wpAnyH_take (i := 12) (v := ?v12yC0) ?hi12yC0 (by kernel_rfl) (by kernel_rfl) (by kernel_rfl) ?hq12yC0 (Or.inl ⟨?hw12yC0, ?hy12yC0⟩) (by assumption) ?hr12yC0
              case hi12yC0 => (simp only [List.getElem?_toArray, List.getElem?_cons_zero, List.getElem?_cons_succ]; exact rfl)
              case hq12yC0 => exact fun _ _ _ h => h
              case hw12yC0 => rfl
              case hy12yC0 =>
                intro wz hz
                (try dsimp only at hz)
                go_simp
                all_goals with_reducible rfl
              try simp only [Act.put, List.setIfInBounds_toArray, List.set_cons_zero, List.set_cons_succ]
              refine' wpAnyH_take (i := 13) (v := ?v13yC0) ?hi13yC0 (by kernel_rfl) (by kernel_rfl) (by kernel_rfl) ?hq13yC0 (Or.inl ⟨?hw13yC0, ?hy13yC0⟩) (by assumption) ?hr13yC0
              case hi13yC0 => (simp only [List.getElem?_toArray, List.getElem?_cons_zero, List.getElem?_cons_succ]; exact rfl)
              case hq13yC0 => exact fun _ _ _ h => h
              case hw13yC0 => rfl
              case hy13yC0 =>
                intro wz hz
                (try dsimp only at hz)
                go_simp
                all_goals with_reducible rfl
              try simp only [Act.put, List.setIfInBounds_toArray, List.set_cons_zero, List.set_cons_succ]
              refine wpAnyH_done (by kernel_rfl) ?_ _
              have hbW := hS5.2.2.2.2.alloc hS5.2.2.2.2.size (.cells #[.int .i64 b, .int .i64 1, .int .i64 (b + offT 1)] 23)
              have t6 := HT.out.below hbW
              have u6 := turn_new w5 b 1 (b + offT 1)
              have hne : w5.heap.size ≠ w4.heap.size := by have := HT.out.lt; have := hS5.2.2.2.2.size; omega
              obtain ⟨p0, p1, p2, r0, r1, r2⟩ := t6.cells
              obtain ⟨u0, u1, u2, _⟩ := u6.cells
              have Fin := Lib.hid (plans_next hk2.out.1 hk2.out.2.1 HT.out hk2.out.2.2.2.1 hk2.out.2.2.2.2 hbW b 1 (b + offT 1))
              unfold putT3 at Fin
              (try unfold putT3 at u0 u1 u2)
              (try unfold putT3 at p0 p1 p2 r0 r1 r2)
              go_wp2
              go_roundw
              case rel => exact ⟨1, by omega, by go_num, Lib.hid ⟨Fin.out.1, Fin.out.2.1, ⟨_, _, _, Fin.out.2.2.1, fun h => ⟨rfl, rfl, rfl⟩⟩, Fin.out.2.2.2, hk2.out.2.2.2.2⟩⟩
              case measure => simp [intOf]
        case hmA0 =>
          refine AllReadyH.cons (o := ?hoD0) ?hioD0 (fun KD hKD => ?hsD0) AllReadyH.nil
          case hioD0 => (simp only [List.getElem?_toArray, List.getElem?_cons_zero, List.getElem?_cons_succ]; exact rfl)
          case hsD0 =>
            go_simp
            refine hKD.out _ _ (by first | exact hS6.out | exact hS7.out | exact hal.out _ _ (by assumption)) (fun hHeldD => ?_)
            try simp only [Act.put, List.setIfInBounds_toArray, List.set_cons_zero, List.set_cons_succ]
            refine wpAnyH_ready (rs := [5]) (by kernel_rfl) (by simp) ?_
            refine AllReadyH.cons (o := ?hoE0) ?hioE0 (fun KE hKE => ?hsE0) AllReadyH.nil
            case hioE0 => (simp only [List.getElem?_toArray, List.getElem?_cons_zero, List.getElem?_cons_succ]; exact rfl)
            case hsE0 =>
              go_simp
              go_at_call 8
              with_reducible refine (hf2.out _ ?_).mono ?_
              · assumption
              rintro e w5 ⟨rfl, hS5, hb5⟩
              have nb5 : TurnAt w5 wr.heap.size 0 0 0 := (hb5.block wr.heap.size (by simp)).trans (by first | exact turn_new wr 0 0 0 | exact turn_new wr.drew 0 0 0)
              obtain ⟨ka0, ka1, ka2, qa0, qa1, qa2⟩ := nb5.cells
              have hnb := Lib.hid nb5
              clear nb5
              refine hKE.out _ _ hS5 (fun hHeldE => ?_)
              try simp only [Act.put, List.setIfInBounds_toArray, List.set_cons_zero, List.set_cons_succ]
              refine' wpAnyH_take (i := 6) (v := ?v6yE0) ?hi6yE0 (by kernel_rfl) (by kernel_rfl) (by kernel_rfl) ?hq6yE0 (Or.inl ⟨?hw6yE0, ?hy6yE0⟩) (by assumption) ?hr6yE0
              case hi6yE0 => (simp only [List.getElem?_toArray, List.getElem?_cons_zero, List.getElem?_cons_succ]; exact rfl)
              case hq6yE0 => exact fun _ _ _ h => h
              case hw6yE0 => rfl
              case hy6yE0 =>
                intro wz hz
                (try dsimp only at hz)
                go_simp
                all_goals with_reducible rfl
              try simp only [Act.put, List.setIfInBounds_toArray, List.set_cons_zero, List.set_cons_succ]
              refine' wpAnyH_take (i := 7) (v := ?v7yE0) ?hi7yE0 (by kernel_rfl) (by kernel_rfl) (by kernel_rfl) ?hq7yE0 (Or.inl ⟨?hw7yE0, ?hy7yE0⟩) (by assumption) ?hr7yE0
              case hi7yE0 => (simp only [List.getElem?_toArray, List.getElem?_cons_zero, List.getElem?_cons_succ]; exact rfl)
              case hq7yE0 => exact fun _ _ _ h => h
              case hw7yE0 => rfl
              case hy7yE0 =>
                intro wz hz
                (try dsimp only at hz)
                go_simp
                all_goals with_reducible rfl
              try simp only [Act.put, List.setIfInBounds_toArray, List.set_cons_zero, List.set_cons_succ]
              refine' wpAnyH_take (i := 8) (v := ?v8yE0) ?hi8yE0 (by kernel_rfl) (by kernel_rfl) (by kernel_rfl) ?hq8yE0 (Or.inl ⟨?hw8yE0, ?hy8yE0⟩) (by assumption) ?hr8yE0
              case hi8yE0 => (simp only [List.getElem?_toArray, List.getElem?_cons_zero, List.getElem?_cons_succ]; exact rfl)
              case hq8yE0 => exact fun _ _ _ h => h
              case hw8yE0 => rfl
              case hy8yE0 =>
                intro wz hz
                (try dsimp only at hz)
                go_simp
                all_goals with_reducible rfl
              try simp only [Act.put, List.setIfInBounds_toArray, List.set_cons_zero, List.set_cons_succ]
              refine' wpAnyH_take (i := 9) (v := ?v9yE0) ?hi9yE0 (by kernel_rfl) (by kernel_rfl) (by kernel_rfl) ?hq9yE0 (Or.inl ⟨?hw9yE0, ?hy9yE0⟩) (by assumption) ?hr9yE0
              case hi9yE0 => (simp only [List.getElem?_toArray, List.getElem?_cons_zero, List.getElem?_cons_succ]; exact rfl)
              case hq9yE0 => exact fun _ _ _ h => h
              case hw9yE0 => rfl
              case hy9yE0 =>
                intro wz hz
                (try dsimp only at hz)
                go_simp
                all_goals with_reducible rfl
              try simp only [Act.put, List.setIfInBounds_toArray, List.set_cons_zero, List.set_cons_succ]
              refine wpAnyH_ready (rs := [11]) (by kernel_rfl) (by simp) ?_
              refine AllReadyH.cons (o := ?hoF0) ?hioF0 (fun KF hKF => ?hsF0) AllReadyH.nil
              case hioF0 => (simp only [List.getElem?_toArray, List.getElem?_cons_zero, List.getElem?_cons_succ]; exact rfl)
              case hsF0 =>
                go_simp
                refine hKF.out _ _ (hst.out _ _ _ _ _ (Nat.le_refl _) hS5) (fun hHeldF => ?_)
                try simp only [Act.put, List.setIfInBounds_toArray, List.set_cons_zero, List.set_cons_succ]
                refine' wpAnyH_take (i := 12) (v := ?v12yF0) ?hi12yF0 (by kernel_rfl) (by kernel_rfl) (by kernel_rfl) ?hq12yF0 (Or.inl ⟨?hw12yF0, ?hy12yF0⟩) (by assumption) ?hr12yF0
                case hi12yF0 => (simp only [List.getElem?_toArray, List.getElem?_cons_zero, List.getElem?_cons_succ]; exact rfl)
                case hq12yF0 => exact fun _ _ _ h => h
                case hw12yF0 => rfl
                case hy12yF0 =>
                  intro wz hz
                  (try dsimp only at hz)
                  go_simp
                  all_goals with_reducible rfl
                try simp only [Act.put, List.setIfInBounds_toArray, List.set_cons_zero, List.set_cons_succ]
                refine' wpAnyH_take (i := 13) (v := ?v13yF0) ?hi13yF0 (by kernel_rfl) (by kernel_rfl) (by kernel_rfl) ?hq13yF0 (Or.inl ⟨?hw13yF0, ?hy13yF0⟩) (by assumption) ?hr13yF0
                case hi13yF0 => (simp only [List.getElem?_toArray, List.getElem?_cons_zero, List.getElem?_cons_succ]; exact rfl)
                case hq13yF0 => exact fun _ _ _ h => h
                case hw13yF0 => rfl
                case hy13yF0 =>
                  intro wz hz
                  (try dsimp only at hz)
                  go_simp
                  all_goals with_reducible rfl
                try simp only [Act.put, List.setIfInBounds_toArray, List.set_cons_zero, List.set_cons_succ]
                refine wpAnyH_done (by kernel_rfl) ?_ _
                have hbW := putT3_below hS5.2.2.2.2 (Nat.le_refl wr.heap.size) b 1 (b + offT 1)
                have t6 := HT.out.below hbW
                have u6 := hnb.out.put b 1 (b + offT 1)
                have hne : wr.heap.size ≠ w4.heap.size := by have := HT.out.lt; omega
                obtain ⟨p0, p1, p2, r0, r1, r2⟩ := t6.cells
                obtain ⟨u0, u1, u2, _⟩ := u6.cells
                have Fin := Lib.hid (plans_next hk2.out.1 hk2.out.2.1 HT.out hk2.out.2.2.2.1 hk2.out.2.2.2.2 hbW b 1 (b + offT 1))
                unfold putT3 at Fin
                (try unfold putT3 at u0 u1 u2)
                (try unfold putT3 at p0 p1 p2 r0 r1 r2)
                go_wp2
                go_roundw
                case rel => exact ⟨1, by omega, by go_num, Lib.hid ⟨Fin.out.1, Fin.out.2.1, ⟨_, _, _, Fin.out.2.2.1, fun h => ⟨rfl, rfl, rfl⟩⟩, Fin.out.2.2.2, hk2.out.2.2.2.2⟩⟩
                case measure => simp [intOf]
      | 1, _ =>
        have ex := hfx (by omega)
        rw [ex.1, show x1 = 2 from ex.2.1, ex.2.2] at hf
        clear ex hfx
        obtain ⟨zp, hop⟩ := hprev.out 0 rfl
        obtain ⟨o', ho'⟩ : ∃ o', offT 0 = o' := ⟨_, rfl⟩
        rw [ho'] at zp hop
        have s2 : decide (b + o ≤ b + o') = false := decide_eq_false (by omega)
        have s3 : (b + o != b + o) = false := by simp
        have s4 : IntKind.i64.wrap (0 : Int) = 0 := by decide
        have HT := Lib.hid htn2
        clear htn2
        have hcl : Hid (∀ W, Below wr.heap.size wr W → (W.cell? ⟨g1, 1, none⟩ = some (.int .i64 (b + o)) ∧ W.cell? ⟨g2, 1, none⟩ = some (.int .i64 (later + o)) ∧ W.cell? ⟨w4.heap.size, 2, none⟩ = some (.int .i64 (b + o)) ∧ W.cell? ⟨g1, 0, none⟩ = some (.int .i64 (b + o')) ∧ Below wr.heap.size wr W) ∧ (W.cell? ⟨w4.heap.size, 0, none⟩ = some (.int .i64 b) ∧ W.cell? ⟨w4.heap.size, 1, none⟩ = some (.int .i64 1) ∧ W.cell? ⟨w4.heap.size, 2, none⟩ = some (.int .i64 (b + o)) ∧ W.cell? ⟨g1, 1, none⟩ = some (.int .i64 (b + o)) ∧ Below wr.heap.size wr W)) := Lib.hid fun W hW => by
          have hc : ∀ g o v, wr.cell? ⟨g, o, none⟩ = some v → W.cell? ⟨g, o, none⟩ = some v := fun g o v h => (hW.cell (p := ⟨g, o, none⟩) (cell_lt15 h)).trans h
          exact ⟨⟨hc _ _ _ z1, hc _ _ _ z2, hc _ _ _ c2, hc _ _ _ zp, hW⟩, hc _ _ _ c0, hc _ _ _ c1, hc _ _ _ c2, hc _ _ _ z1, hW⟩
        have hS0 := Lib.hid (hcl.out _ (Below.refl wr.heap.size wr)).1
        have hS1 := Lib.hid (hcl.out _ (Below.refl wr.heap.size wr).drew).1
        clear z1 z2 c0 c1 c2 zp hprev
        go_wp2_with fail
        refine wp_region_held_drew (S := (fun W => W.cell? ⟨g1, 1, none⟩ = some (.int .i64 (b + o)) ∧ W.cell? ⟨g2, 1, none⟩ = some (.int .i64 (later + o)) ∧ W.cell? ⟨w4.heap.size, 2, none⟩ = some (.int .i64 (b + o)) ∧ W.cell? ⟨g1, 0, none⟩ = some (.int .i64 (b + o')) ∧ Below wr.heap.size wr W)) (by kernel_rfl) (by first | assumption | exact hS0.out | exact hS1.out) (fun hHeld => ?_)
        refine' wpAnyH_take (i := 0) (v := ?v0z1) ?hi0z1 (by kernel_rfl) (by kernel_rfl) (by kernel_rfl) ?hq0z1 (Or.inl ⟨?hw0z1, ?hy0z1⟩) (by assumption) ?hr0z1
        case hi0z1 => (simp only [List.getElem?_toArray, List.getElem?_cons_zero]; exact rfl)
        case hq0z1 => exact fun _ _ _ h => h
        case hw0z1 => rfl
        case hy0z1 =>
          intro wz hz
          (try dsimp only at hz)
          go_simp
          all_goals with_reducible rfl
        try simp only [Act.put, List.setIfInBounds_toArray, List.set_cons_zero, List.set_cons_succ]
        refine' wpAnyH_take (i := 1) (v := ?v1z1) ?hi1z1 (by kernel_rfl) (by kernel_rfl) (by kernel_rfl) ?hq1z1 (Or.inl ⟨?hw1z1, ?hy1z1⟩) (by assumption) ?hr1z1
        case hi1z1 => (simp only [List.getElem?_toArray, List.getElem?_cons_zero, List.getElem?_cons_succ]; exact rfl)
        case hq1z1 => exact fun _ _ _ h => h
        case hw1z1 => rfl
        case hy1z1 =>
          intro wz hz
          (try dsimp only at hz)
          go_simp
          all_goals with_reducible rfl
        try simp only [Act.put, List.setIfInBounds_toArray, List.set_cons_zero, List.set_cons_succ]
        refine' wpAnyH_take (i := 2) (v := ?v2z1) ?hi2z1 (by kernel_rfl) (by kernel_rfl) (by kernel_rfl) ?hq2z1 (Or.inl ⟨?hw2z1, ?hy2z1⟩) (by assumption) ?hr2z1
        case hi2z1 => (simp only [List.getElem?_toArray, List.getElem?_cons_zero, List.getElem?_cons_succ]; exact rfl)
        case hq2z1 => exact fun _ _ _ h => h
        case hw2z1 => rfl
        case hy2z1 =>
          intro wz hz
          (try dsimp only at hz)
          go_simp
          all_goals with_reducible rfl
        try simp only [Act.put, List.setIfInBounds_toArray, List.set_cons_zero, List.set_cons_succ]
        refine' wpAnyH_take (i := 3) (v := ?v3z1) ?hi3z1 (by kernel_rfl) (by kernel_rfl) (by kernel_rfl) ?hq3z1 (Or.inl ⟨?hw3z1, ?hy3z1⟩) (by assumption) ?hr3z1
        case hi3z1 => (simp only [List.getElem?_toArray, List.getElem?_cons_zero, List.getElem?_cons_succ]; exact rfl)
        case hq3z1 => exact fun _ _ _ h => h
        case hw3z1 => rfl
        case hy3z1 =>
          intro wz hz
          (try dsimp only at hz)
          go_simp
          all_goals with_reducible rfl
        try simp only [Act.put, List.setIfInBounds_toArray, List.set_cons_zero, List.set_cons_succ]
        refine' wpAnyH_take (i := 4) (v := ?v4z1) ?hi4z1 (by kernel_rfl) (by kernel_rfl) (by kernel_rfl) ?hq4z1 (Or.inl ⟨?hw4z1, ?hy4z1⟩) (by assumption) ?hr4z1
        case hi4z1 => (simp only [List.getElem?_toArray, List.getElem?_cons_zero, List.getElem?_cons_succ]; exact rfl)
        case hq4z1 => exact fun _ _ _ h => h
        case hw4z1 => rfl
        case hy4z1 =>
          intro wz hz
          (try dsimp only at hz)
          go_simp
          all_goals with_reducible rfl
        try simp only [Act.put, List.setIfInBounds_toArray, List.set_cons_zero, List.set_cons_succ]
        refine' wpAnyH_take (i := 5) (v := ?v5z1) ?hi5z1 (by kernel_rfl) (by kernel_rfl) (by kernel_rfl) ?hq5z1 (Or.inl ⟨?hw5z1, ?hy5z1⟩) (by assumption) ?hr5z1
        case hi5z1 => (simp only [List.getElem?_toArray, List.getElem?_cons_zero, List.getElem?_cons_succ]; exact rfl)
        case hq5z1 => exact fun _ _ _ h => h
        case hw5z1 => rfl
        case hy5z1 =>
          intro wz hz
          (try dsimp only at hz)
          go_simp
          all_goals with_reducible rfl
        try simp only [Act.put, List.setIfInBounds_toArray, List.set_cons_zero, List.set_cons_succ]
        refine' wpAnyH_take (i := 6) (v := ?v6z1) ?hi6z1 (by kernel_rfl) (by kernel_rfl) (by kernel_rfl) ?hq6z1 (Or.inl ⟨?hw6z1, ?hy6z1⟩) (by assumption) ?hr6z1
        case hi6z1 => (simp only [List.getElem?_toArray, List.getElem?_cons_zero, List.getElem?_cons_succ]; exact rfl)
        case hq6z1 => exact fun _ _ _ h => h
        case hw6z1 => rfl
        case hy6z1 =>
          intro wz hz
          (try dsimp only at hz)
          go_simp
          all_goals with_reducible rfl
        try simp only [Act.put, List.setIfInBounds_toArray, List.set_cons_zero, List.set_cons_succ]
        refine' wpAnyH_take (i := 7) (v := ?v7z1) ?hi7z1 (by kernel_rfl) (by kernel_rfl) (by kernel_rfl) ?hq7z1 (Or.inl ⟨?hw7z1, ?hy7z1⟩) (by assumption) ?hr7z1
        case hi7z1 => (simp only [List.getElem?_toArray, List.getElem?_cons_zero, List.getElem?_cons_succ]; exact rfl)
        case hq7z1 => exact fun _ _ _ h => h
        case hw7z1 => rfl
        case hy7z1 =>
          intro wz hz
          (try dsimp only at hz)
          go_simp
          all_goals with_reducible rfl
        try simp only [Act.put, List.setIfInBounds_toArray, List.set_cons_zero, List.set_cons_succ]
        refine' wpAnyH_take (i := 8) (v := ?v8z1) ?hi8z1 (by kernel_rfl) (by kernel_rfl) (by kernel_rfl) ?hq8z1 (Or.inl ⟨?hw8z1, ?hy8z1⟩) (by assumption) ?hr8z1
        case hi8z1 => (simp only [List.getElem?_toArray, List.getElem?_cons_zero, List.getElem?_cons_succ]; exact rfl)
        case hq8z1 => exact fun _ _ _ h => h
        case hw8z1 => rfl
        case hy8z1 =>
          intro wz hz
          (try dsimp only at hz)
          go_simp
          all_goals with_reducible rfl
        try simp only [Act.put, List.setIfInBounds_toArray, List.set_cons_zero, List.set_cons_succ]
        refine' wpAnyH_take (i := 9) (v := ?v9z1) ?hi9z1 (by kernel_rfl) (by kernel_rfl) (by kernel_rfl) ?hq9z1 (Or.inl ⟨?hw9z1, ?hy9z1⟩) (by assumption) ?hr9z1
        case hi9z1 => (simp only [List.getElem?_toArray, List.getElem?_cons_zero, List.getElem?_cons_succ]; exact rfl)
        case hq9z1 => exact fun _ _ _ h => h
        case hw9z1 => rfl
        case hy9z1 =>
          intro wz hz
          (try dsimp only at hz)
          go_simp
          all_goals with_reducible rfl
        try simp only [Act.put, List.setIfInBounds_toArray, List.set_cons_zero, List.set_cons_succ]
        refine' wpAnyH_take (i := 10) (v := ?v10z1) ?hi10z1 (by kernel_rfl) (by kernel_rfl) (by kernel_rfl) ?hq10z1 (Or.inl ⟨?hw10z1, ?hy10z1⟩) (by assumption) ?hr10z1
        case hi10z1 => (simp only [List.getElem?_toArray, List.getElem?_cons_zero, List.getElem?_cons_succ]; exact rfl)
        case hq10z1 => exact fun _ _ _ h => h
        case hw10z1 => rfl
        case hy10z1 =>
          intro wz hz
          (try dsimp only at hz)
          go_simp
          all_goals with_reducible rfl
        try simp only [Act.put, List.setIfInBounds_toArray, List.set_cons_zero, List.set_cons_succ]
        refine' wpAnyH_take (i := 11) (v := ?v11z1) ?hi11z1 (by kernel_rfl) (by kernel_rfl) (by kernel_rfl) ?hq11z1 (Or.inl ⟨?hw11z1, ?hy11z1⟩) (by assumption) ?hr11z1
        case hi11z1 => (simp only [List.getElem?_toArray, List.getElem?_cons_zero, List.getElem?_cons_succ]; exact rfl)
        case hq11z1 => exact fun _ _ _ h => h
        case hw11z1 => rfl
        case hy11z1 =>
          intro wz hz
          (try dsimp only at hz)
          go_simp
          all_goals with_reducible rfl
        try simp only [Act.put, List.setIfInBounds_toArray, List.set_cons_zero, List.set_cons_succ]
        refine' wpAnyH_take (i := 12) (v := ?v12z1) ?hi12z1 (by kernel_rfl) (by kernel_rfl) (by kernel_rfl) ?hq12z1 (Or.inl ⟨?hw12z1, ?hy12z1⟩) (by assumption) ?hr12z1
        case hi12z1 => (simp only [List.getElem?_toArray, List.getElem?_cons_zero, List.getElem?_cons_succ]; exact rfl)
        case hq12z1 => exact fun _ _ _ h => h
        case hw12z1 => rfl
        case hy12z1 =>
          intro wz hz
          (try dsimp only at hz)
          go_simp
          all_goals with_reducible rfl
        try simp only [Act.put, List.setIfInBounds_toArray, List.set_cons_zero, List.set_cons_succ]
        refine' wpAnyH_take (i := 13) (v := ?v13z1) ?hi13z1 (by kernel_rfl) (by kernel_rfl) (by kernel_rfl) ?hq13z1 (Or.inl ⟨?hw13z1, ?hy13z1⟩) (by assumption) ?hr13z1
        case hi13z1 => (simp only [List.getElem?_toArray, List.getElem?_cons_zero, List.getElem?_cons_succ]; exact rfl)
        case hq13z1 => exact fun _ _ _ h => h
        case hw13z1 => rfl
        case hy13z1 =>
          intro wz hz
          (try dsimp only at hz)
          go_simp
          all_goals with_reducible rfl
        try simp only [Act.put, List.setIfInBounds_toArray, List.set_cons_zero, List.set_cons_succ]
        refine' wpAnyH_take (i := 14) (v := ?v14z1) ?hi14z1 (by kernel_rfl) (by kernel_rfl) (by kernel_rfl) ?hq14z1 (Or.inl ⟨?hw14z1, ?hy14z1⟩) (by assumption) ?hr14z1
        case hi14z1 => (simp only [List.getElem?_toArray, List.getElem?_cons_zero, List.getElem?_cons_succ]; exact rfl)
        case hq14z1 => exact fun _ _ _ h => h
        case hw14z1 => rfl
        case hy14z1 =>
          intro wz hz
          (try dsimp only at hz)
          go_simp
          all_goals with_reducible rfl
        try simp only [Act.put, List.setIfInBounds_toArray, List.set_cons_zero, List.set_cons_succ]
        refine' wpAnyH_take (i := 15) (v := ?v15z1) ?hi15z1 (by kernel_rfl) (by kernel_rfl) (by kernel_rfl) ?hq15z1 (Or.inl ⟨?hw15z1, ?hy15z1⟩) (by assumption) ?hr15z1
        case hi15z1 => (simp only [List.getElem?_toArray, List.getElem?_cons_zero, List.getElem?_cons_succ]; exact rfl)
        case hq15z1 => exact fun _ _ _ h => h
        case hw15z1 => rfl
        case hy15z1 =>
          intro wz hz
          (try dsimp only at hz)
          go_simp
          all_goals with_reducible rfl
        try simp only [Act.put, List.setIfInBounds_toArray, List.set_cons_zero, List.set_cons_succ]
        refine' wpAnyH_take (i := 16) (v := ?v16z1) ?hi16z1 (by kernel_rfl) (by kernel_rfl) (by kernel_rfl) ?hq16z1 (Or.inl ⟨?hw16z1, ?hy16z1⟩) (by assumption) ?hr16z1
        case hi16z1 => (simp only [List.getElem?_toArray, List.getElem?_cons_zero, List.getElem?_cons_succ]; exact rfl)
        case hq16z1 => exact fun _ _ _ h => h
        case hw16z1 => rfl
        case hy16z1 =>
          intro wz hz
          (try dsimp only at hz)
          go_simp
          all_goals with_reducible rfl
        try simp only [Act.put, List.setIfInBounds_toArray, List.set_cons_zero, List.set_cons_succ]
        refine' wpAnyH_take (i := 17) (v := ?v17z1) ?hi17z1 (by kernel_rfl) (by kernel_rfl) (by kernel_rfl) ?hq17z1 (Or.inl ⟨?hw17z1, ?hy17z1⟩) (by assumption) ?hr17z1
        case hi17z1 => (simp only [List.getElem?_toArray, List.getElem?_cons_zero, List.getElem?_cons_succ]; exact rfl)
        case hq17z1 => exact fun _ _ _ h => h
        case hw17z1 => rfl
        case hy17z1 =>
          intro wz hz
          (try dsimp only at hz)
          go_simp
          all_goals with_reducible rfl
        try simp only [Act.put, List.setIfInBounds_toArray, List.set_cons_zero, List.set_cons_succ]
        refine' wpAnyH_take (i := 18) (v := ?v18z1) ?hi18z1 (by kernel_rfl) (by kernel_rfl) (by kernel_rfl) ?hq18z1 (Or.inl ⟨?hw18z1, ?hy18z1⟩) (by assumption) ?hr18z1
        case hi18z1 => (simp only [List.getElem?_toArray, List.getElem?_cons_zero, List.getElem?_cons_succ]; exact rfl)
        case hq18z1 => exact fun _ _ _ h => h
        case hw18z1 => rfl
        case hy18z1 =>
          intro wz hz
          (try dsimp only at hz)
          go_simp
          all_goals with_reducible rfl
        try simp only [Act.put, List.setIfInBounds_toArray, List.set_cons_zero, List.set_cons_succ]
        refine' wpAnyH_take (i := 19) (v := ?v19z1) ?hi19z1 (by kernel_rfl) (by kernel_rfl) (by kernel_rfl) ?hq19z1 (Or.inl ⟨?hw19z1, ?hy19z1⟩) (by assumption) ?hr19z1
        case hi19z1 => (simp only [List.getElem?_toArray, List.getElem?_cons_zero, List.getElem?_cons_succ]; exact rfl)
        case hq19z1 => exact fun _ _ _ h => h
        case hw19z1 => rfl
        case hy19z1 =>
          intro wz hz
          (try dsimp only at hz)
          go_simp
          all_goals with_reducible rfl
        try simp only [Act.put, List.setIfInBounds_toArray, List.set_cons_zero, List.set_cons_succ]
        refine' wpAnyH_take (i := 20) (v := ?v20z1) ?hi20z1 (by kernel_rfl) (by kernel_rfl) (by kernel_rfl) ?hq20z1 (Or.inl ⟨?hw20z1, ?hy20z1⟩) (by assumption) ?hr20z1
        case hi20z1 => (simp only [List.getElem?_toArray, List.getElem?_cons_zero, List.getElem?_cons_succ]; exact rfl)
        case hq20z1 => exact fun _ _ _ h => h
        case hw20z1 => rfl
        case hy20z1 =>
          intro wz hz
          (try dsimp only at hz)
          go_simp
          all_goals with_reducible rfl
        try simp only [Act.put, List.setIfInBounds_toArray, List.set_cons_zero, List.set_cons_succ]
        refine' wpAnyH_take (i := 21) (v := ?v21z1) ?hi21z1 (by kernel_rfl) (by kernel_rfl) (by kernel_rfl) ?hq21z1 (Or.inl ⟨?hw21z1, ?hy21z1⟩) (by assumption) ?hr21z1
        case hi21z1 => (simp only [List.getElem?_toArray, List.getElem?_cons_zero, List.getElem?_cons_succ]; exact rfl)
        case hq21z1 => exact fun _ _ _ h => h
        case hw21z1 => rfl
        case hy21z1 =>
          intro wz hz
          (try dsimp only at hz)
          go_simp
          all_goals with_reducible rfl
        try simp only [Act.put, List.setIfInBounds_toArray, List.set_cons_zero, List.set_cons_succ]
        refine' wpAnyH_take (i := 22) (v := ?v22z1) ?hi22z1 (by kernel_rfl) (by kernel_rfl) (by kernel_rfl) ?hq22z1 (Or.inl ⟨?hw22z1, ?hy22z1⟩) (by assumption) ?hr22z1
        case hi22z1 => (simp only [List.getElem?_toArray, List.getElem?_cons_zero, List.getElem?_cons_succ]; exact rfl)
        case hq22z1 => exact fun _ _ _ h => h
        case hw22z1 => rfl
        case hy22z1 =>
          intro wz hz
          (try dsimp only at hz)
          go_simp
          all_goals with_reducible rfl
        try simp only [Act.put, List.setIfInBounds_toArray, List.set_cons_zero, List.set_cons_succ]
        refine' wpAnyH_take (i := 23) (v := ?v23z1) ?hi23z1 (by kernel_rfl) (by kernel_rfl) (by kernel_rfl) ?hq23z1 (Or.inl ⟨?hw23z1, ?hy23z1⟩) (by assumption) ?hr23z1
        case hi23z1 => (simp only [List.getElem?_toArray, List.getElem?_cons_zero, List.getElem?_cons_succ]; exact rfl)
        case hq23z1 => exact fun _ _ _ h => h
        case hw23z1 => rfl
        case hy23z1 =>
          intro wz hz
          (try dsimp only at hz)
          go_simp
          all_goals with_reducible rfl
        try simp only [Act.put, List.setIfInBounds_toArray, List.set_cons_zero, List.set_cons_succ]
        refine' wpAnyH_take (i := 24) (v := ?v24z1) ?hi24z1 (by kernel_rfl) (by kernel_rfl) (by kernel_rfl) ?hq24z1 (Or.inl ⟨?hw24z1, ?hy24z1⟩) (by assumption) ?hr24z1
        case hi24z1 => (simp only [List.getElem?_toArray, List.getElem?_cons_zero, List.getElem?_cons_succ]; exact rfl)
        case hq24z1 => exact fun _ _ _ h => h
        case hw24z1 => rfl
        case hy24z1 =>
          intro wz hz
          (try dsimp only at hz)
          go_simp
          all_goals with_reducible rfl
        try simp only [Act.put, List.setIfInBounds_toArray, List.set_cons_zero, List.set_cons_succ]
        refine' wpAnyH_take (i := 25) (v := ?v25z1) ?hi25z1 (by kernel_rfl) (by kernel_rfl) (by kernel_rfl) ?hq25z1 (Or.inl ⟨?hw25z1, ?hy25z1⟩) (by assumption) ?hr25z1
        case hi25z1 => (simp only [List.getElem?_toArray, List.getElem?_cons_zero, List.getElem?_cons_succ]; exact rfl)
        case hq25z1 => exact fun _ _ _ h => h
        case hw25z1 => rfl
        case hy25z1 =>
          intro wz hz
          (try dsimp only at hz)
          go_simp
          all_goals with_reducible rfl
        try simp only [Act.put, List.setIfInBounds_toArray, List.set_cons_zero, List.set_cons_succ]
        refine' wpAnyH_take (i := 26) (v := ?v26z1) ?hi26z1 (by kernel_rfl) (by kernel_rfl) (by kernel_rfl) ?hq26z1 (Or.inl ⟨?hw26z1, ?hy26z1⟩) (by assumption) ?hr26z1
        case hi26z1 => (simp only [List.getElem?_toArray, List.getElem?_cons_zero, List.getElem?_cons_succ]; exact rfl)
        case hq26z1 => exact fun _ _ _ h => h
        case hw26z1 => rfl
        case hy26z1 =>
          intro wz hz
          (try dsimp only at hz)
          go_simp
          all_goals with_reducible rfl
        try simp only [Act.put, List.setIfInBounds_toArray, List.set_cons_zero, List.set_cons_succ]
        refine' wpAnyH_take (i := 27) (v := ?v27z1) ?hi27z1 (by kernel_rfl) (by kernel_rfl) (by kernel_rfl) ?hq27z1 (Or.inl ⟨?hw27z1, ?hy27z1⟩) (by assumption) ?hr27z1
        case hi27z1 => (simp only [List.getElem?_toArray, List.getElem?_cons_zero, List.getElem?_cons_succ]; exact rfl)
        case hq27z1 => exact fun _ _ _ h => h
        case hw27z1 => rfl
        case hy27z1 =>
          intro wz hz
          (try dsimp only at hz)
          go_simp
          all_goals with_reducible rfl
        try simp only [Act.put, List.setIfInBounds_toArray, List.set_cons_zero, List.set_cons_succ]
        refine' wpAnyH_take (i := 28) (v := ?v28z1) ?hi28z1 (by kernel_rfl) (by kernel_rfl) (by kernel_rfl) ?hq28z1 (Or.inl ⟨?hw28z1, ?hy28z1⟩) (by assumption) ?hr28z1
        case hi28z1 => (simp only [List.getElem?_toArray, List.getElem?_cons_zero, List.getElem?_cons_succ]; exact rfl)
        case hq28z1 => exact fun _ _ _ h => h
        case hw28z1 => rfl
        case hy28z1 =>
          intro wz hz
          (try dsimp only at hz)
          go_simp
          all_goals with_reducible rfl
        try simp only [Act.put, List.setIfInBounds_toArray, List.set_cons_zero, List.set_cons_succ]
        refine' wpAnyH_take (i := 29) (v := ?v29z1) ?hi29z1 (by kernel_rfl) (by kernel_rfl) (by kernel_rfl) ?hq29z1 (Or.inl ⟨?hw29z1, ?hy29z1⟩) (by assumption) ?hr29z1
        case hi29z1 => (simp only [List.getElem?_toArray, List.getElem?_cons_zero, List.getElem?_cons_succ]; exact rfl)
        case hq29z1 => exact fun _ _ _ h => h
        case hw29z1 => rfl
        case hy29z1 =>
          intro wz hz
          (try dsimp only at hz)
          go_simp
          all_goals with_reducible rfl
        try simp only [Act.put, List.setIfInBounds_toArray, List.set_cons_zero, List.set_cons_succ]
        refine' wpAnyH_take (i := 30) (v := ?v30z1) ?hi30z1 (by kernel_rfl) (by kernel_rfl) (by kernel_rfl) ?hq30z1 (Or.inl ⟨?hw30z1, ?hy30z1⟩) (by assumption) ?hr30z1
        case hi30z1 => (simp only [List.getElem?_toArray, List.getElem?_cons_zero, List.getElem?_cons_succ]; exact rfl)
        case hq30z1 => exact fun _ _ _ h => h
        case hw30z1 => rfl
        case hy30z1 =>
          intro wz hz
          (try dsimp only at hz)
          go_simp
          all_goals with_reducible rfl
        try simp only [Act.put, List.setIfInBounds_toArray, List.set_cons_zero, List.set_cons_succ]
        refine' wpAnyH_take (i := 31) (v := ?v31z1) ?hi31z1 (by kernel_rfl) (by kernel_rfl) (by kernel_rfl) ?hq31z1 (Or.inl ⟨?hw31z1, ?hy31z1⟩) (by assumption) ?hr31z1
        case hi31z1 => (simp only [List.getElem?_toArray, List.getElem?_cons_zero, List.getElem?_cons_succ]; exact rfl)
        case hq31z1 => exact fun _ _ _ h => h
        case hw31z1 => rfl
        case hy31z1 =>
          intro wz hz
          (try dsimp only at hz)
          go_simp
          all_goals with_reducible rfl
        try simp only [Act.put, List.setIfInBounds_toArray, List.set_cons_zero, List.set_cons_succ]
        refine' wpAnyH_take (i := 32) (v := ?v32z1) ?hi32z1 (by kernel_rfl) (by kernel_rfl) (by kernel_rfl) ?hq32z1 (Or.inl ⟨?hw32z1, ?hy32z1⟩) (by assumption) ?hr32z1
        case hi32z1 => (simp only [List.getElem?_toArray, List.getElem?_cons_zero, List.getElem?_cons_succ]; exact rfl)
        case hq32z1 => exact fun _ _ _ h => h
        case hw32z1 => rfl
        case hy32z1 =>
          intro wz hz
          (try dsimp only at hz)
          go_simp
          all_goals with_reducible rfl
        try simp only [Act.put, List.setIfInBounds_toArray, List.set_cons_zero, List.set_cons_succ]
        refine' wpAnyH_take (i := 33) (v := ?v33z1) ?hi33z1 (by kernel_rfl) (by kernel_rfl) (by kernel_rfl) ?hq33z1 (Or.inl ⟨?hw33z1, ?hy33z1⟩) (by assumption) ?hr33z1
        case hi33z1 => (simp only [List.getElem?_toArray, List.getElem?_cons_zero, List.getElem?_cons_succ]; exact rfl)
        case hq33z1 => exact fun _ _ _ h => h
        case hw33z1 => rfl
        case hy33z1 =>
          intro wz hz
          (try dsimp only at hz)
          go_simp
          all_goals with_reducible rfl
        try simp only [Act.put, List.setIfInBounds_toArray, List.set_cons_zero, List.set_cons_succ]
        refine' wpAnyH_take (i := 34) (v := ?v34z1) ?hi34z1 (by kernel_rfl) (by kernel_rfl) (by kernel_rfl) ?hq34z1 (Or.inl ⟨?hw34z1, ?hy34z1⟩) (by assumption) ?hr34z1
        case hi34z1 => (simp only [List.getElem?_toArray, List.getElem?_cons_zero, List.getElem?_cons_succ]; exact rfl)
        case hq34z1 => exact fun _ _ _ h => h
        case hw34z1 => rfl
        case hy34z1 =>
          intro wz hz
          (try dsimp only at hz)
          go_simp
          all_goals with_reducible rfl
        try simp only [Act.put, List.setIfInBounds_toArray, List.set_cons_zero, List.set_cons_succ]
        refine' wpAnyH_take (i := 35) (v := ?v35z1) ?hi35z1 (by kernel_rfl) (by kernel_rfl) (by kernel_rfl) ?hq35z1 (Or.inl ⟨?hw35z1, ?hy35z1⟩) (by assumption) ?hr35z1
        case hi35z1 => (simp only [List.getElem?_toArray, List.getElem?_cons_zero, List.getElem?_cons_succ]; exact rfl)
        case hq35z1 => exact fun _ _ _ h => h
        case hw35z1 => rfl
        case hy35z1 =>
          intro wz hz
          (try dsimp only at hz)
          go_simp
          all_goals with_reducible rfl
        try simp only [Act.put, List.setIfInBounds_toArray, List.set_cons_zero, List.set_cons_succ]
        refine' wpAnyH_take (i := 36) (v := ?v36z1) ?hi36z1 (by kernel_rfl) (by kernel_rfl) (by kernel_rfl) ?hq36z1 (Or.inl ⟨?hw36z1, ?hy36z1⟩) (by assumption) ?hr36z1
        case hi36z1 => (simp only [List.getElem?_toArray, List.getElem?_cons_zero, List.getElem?_cons_succ]; exact rfl)
        case hq36z1 => exact fun _ _ _ h => h
        case hw36z1 => rfl
        case hy36z1 =>
          intro wz hz
          (try dsimp only at hz)
          go_simp
          all_goals with_reducible rfl
        try simp only [Act.put, List.setIfInBounds_toArray, List.set_cons_zero, List.set_cons_succ]
        refine' wpAnyH_take (i := 37) (v := ?v37z1) ?hi37z1 (by kernel_rfl) (by kernel_rfl) (by kernel_rfl) ?hq37z1 (Or.inl ⟨?hw37z1, ?hy37z1⟩) (by assumption) ?hr37z1
        case hi37z1 => (simp only [List.getElem?_toArray, List.getElem?_cons_zero, List.getElem?_cons_succ]; exact rfl)
        case hq37z1 => exact fun _ _ _ h => h
        case hw37z1 => rfl
        case hy37z1 =>
          intro wz hz
          (try dsimp only at hz)
          go_simp
          all_goals with_reducible rfl
        try simp only [Act.put, List.setIfInBounds_toArray, List.set_cons_zero, List.set_cons_succ]
        refine wpAnyH_done (by kernel_rfl) ?_ _
        have hS2 := Lib.hid (hcl.out _ (Below.refl wr.heap.size wr).drew).2
        have hS3 := Lib.hid (hcl.out _ ((Below.refl wr.heap.size wr).drew).drew).2
        have hS6 := Lib.hid (hcl.out _ (((Below.refl wr.heap.size wr).alloc (Nat.le_refl _) (.cells #[.int .i64 0, .int .i64 0, .int .i64 0] 23)).drew).drew).2
        have hS7 := Lib.hid (hcl.out _ ((Below.refl wr.heap.size wr).alloc (Nat.le_refl _) (.cells #[.int .i64 0, .int .i64 0, .int .i64 0] 23)).drew).2
        have hf2 : Hid (∀ W, (W.cell? ⟨w4.heap.size, 0, none⟩ = some (.int .i64 b) ∧ W.cell? ⟨w4.heap.size, 1, none⟩ = some (.int .i64 1) ∧ W.cell? ⟨w4.heap.size, 2, none⟩ = some (.int .i64 (b + o)) ∧ W.cell? ⟨g1, 1, none⟩ = some (.int .i64 (b + o)) ∧ Below wr.heap.size wr W) → Calls Try.prog 8 #[turnV b 1 (b + o), .int .i64 (b + o)] W fun e w' => e = .returned (.tuple #[turnV b 2 (b + offT 2), .bool false, .int .i64 0]) ∧ (w'.cell? ⟨w4.heap.size, 0, none⟩ = some (.int .i64 b) ∧ w'.cell? ⟨w4.heap.size, 1, none⟩ = some (.int .i64 1) ∧ w'.cell? ⟨w4.heap.size, 2, none⟩ = some (.int .i64 (b + o)) ∧ w'.cell? ⟨g1, 1, none⟩ = some (.int .i64 (b + o)) ∧ Below wr.heap.size wr w') ∧ Below W.heap.size W w') := Lib.hid fun W hW => by
          refine (hf.out W).mono fun e w' ⟨h1, h2⟩ => ⟨h1, (hcl.out _ ?_).2, h2⟩
          exact hW.2.2.2.2.trans (h2.mono hW.2.2.2.2.size)
        have hal : Hid (∀ W ob, (W.cell? ⟨w4.heap.size, 0, none⟩ = some (.int .i64 b) ∧ W.cell? ⟨w4.heap.size, 1, none⟩ = some (.int .i64 1) ∧ W.cell? ⟨w4.heap.size, 2, none⟩ = some (.int .i64 (b + o)) ∧ W.cell? ⟨g1, 1, none⟩ = some (.int .i64 (b + o)) ∧ Below wr.heap.size wr W) → ((W.alloc ob).cell? ⟨w4.heap.size, 0, none⟩ = some (.int .i64 b) ∧ (W.alloc ob).cell? ⟨w4.heap.size, 1, none⟩ = some (.int .i64 1) ∧ (W.alloc ob).cell? ⟨w4.heap.size, 2, none⟩ = some (.int .i64 (b + o)) ∧ (W.alloc ob).cell? ⟨g1, 1, none⟩ = some (.int .i64 (b + o)) ∧ Below wr.heap.size wr (W.alloc ob))) := Lib.hid fun W ob hW => (hcl.out _ (hW.2.2.2.2.alloc hW.2.2.2.2.size ob)).2
        have hst : Hid (∀ W (nb : Nat) (y0 y1 y2 : Int), wr.heap.size ≤ nb → (W.cell? ⟨w4.heap.size, 0, none⟩ = some (.int .i64 b) ∧ W.cell? ⟨w4.heap.size, 1, none⟩ = some (.int .i64 1) ∧ W.cell? ⟨w4.heap.size, 2, none⟩ = some (.int .i64 (b + o)) ∧ W.cell? ⟨g1, 1, none⟩ = some (.int .i64 (b + o)) ∧ Below wr.heap.size wr W) → ((putT3 W nb y0 y1 y2).cell? ⟨w4.heap.size, 0, none⟩ = some (.int .i64 b) ∧ (putT3 W nb y0 y1 y2).cell? ⟨w4.heap.size, 1, none⟩ = some (.int .i64 1) ∧ (putT3 W nb y0 y1 y2).cell? ⟨w4.heap.size, 2, none⟩ = some (.int .i64 (b + o)) ∧ (putT3 W nb y0 y1 y2).cell? ⟨g1, 1, none⟩ = some (.int .i64 (b + o)) ∧ Below wr.heap.size wr (putT3 W nb y0 y1 y2))) := Lib.hid fun W nb y0 y1 y2 hnb hW => (hcl.out _ (putT3_below hW.2.2.2.2 hnb y0 y1 y2)).2
        unfold putT3 at hst
        clear hS0 hS1 hf hcl
        go_wp2_with fail
        refine wp_region_held_drew (S := (fun W => W.cell? ⟨w4.heap.size, 0, none⟩ = some (.int .i64 b) ∧ W.cell? ⟨w4.heap.size, 1, none⟩ = some (.int .i64 1) ∧ W.cell? ⟨w4.heap.size, 2, none⟩ = some (.int .i64 (b + o)) ∧ W.cell? ⟨g1, 1, none⟩ = some (.int .i64 (b + o)) ∧ Below wr.heap.size wr W)) (by kernel_rfl) (by first | assumption | exact hS2.out | exact hS3.out) (fun hHeld => ?_)
        refine' wpAnyH_take (i := 0) (v := ?v0y1) ?hi0y1 (by kernel_rfl) (by kernel_rfl) (by kernel_rfl) ?hq0y1 (Or.inl ⟨?hw0y1, ?hy0y1⟩) (by assumption) ?hr0y1
        case hi0y1 => (simp only [List.getElem?_toArray, List.getElem?_cons_zero]; exact rfl)
        case hq0y1 => exact fun _ _ _ h => h
        case hw0y1 => rfl
        case hy0y1 =>
          intro wz hz
          (try dsimp only at hz)
          go_simp
          all_goals with_reducible rfl
        try simp only [Act.put, List.setIfInBounds_toArray, List.set_cons_zero, List.set_cons_succ]
        refine' wpAnyH_take (i := 1) (v := ?v1y1) ?hi1y1 (by kernel_rfl) (by kernel_rfl) (by kernel_rfl) ?hq1y1 (Or.inl ⟨?hw1y1, ?hy1y1⟩) (by assumption) ?hr1y1
        case hi1y1 => (simp only [List.getElem?_toArray, List.getElem?_cons_zero, List.getElem?_cons_succ]; exact rfl)
        case hq1y1 => exact fun _ _ _ h => h
        case hw1y1 => rfl
        case hy1y1 =>
          intro wz hz
          (try dsimp only at hz)
          go_simp
          all_goals with_reducible rfl
        try simp only [Act.put, List.setIfInBounds_toArray, List.set_cons_zero, List.set_cons_succ]
        refine' wpAnyH_take (i := 2) (v := ?v2y1) ?hi2y1 (by kernel_rfl) (by kernel_rfl) (by kernel_rfl) ?hq2y1 (Or.inl ⟨?hw2y1, ?hy2y1⟩) (by assumption) ?hr2y1
        case hi2y1 => (simp only [List.getElem?_toArray, List.getElem?_cons_zero, List.getElem?_cons_succ]; exact rfl)
        case hq2y1 => exact fun _ _ _ h => h
        case hw2y1 => rfl
        case hy2y1 =>
          intro wz hz
          (try dsimp only at hz)
          go_simp
          all_goals with_reducible rfl
        try simp only [Act.put, List.setIfInBounds_toArray, List.set_cons_zero, List.set_cons_succ]
        refine' wpAnyH_take (i := 3) (v := ?v3y1) ?hi3y1 (by kernel_rfl) (by kernel_rfl) (by kernel_rfl) ?hq3y1 (Or.inl ⟨?hw3y1, ?hy3y1⟩) (by assumption) ?hr3y1
        case hi3y1 => (simp only [List.getElem?_toArray, List.getElem?_cons_zero, List.getElem?_cons_succ]; exact rfl)
        case hq3y1 => exact fun _ _ _ h => h
        case hw3y1 => rfl
        case hy3y1 =>
          intro wz hz
          (try dsimp only at hz)
          go_simp
          all_goals with_reducible rfl
        try simp only [Act.put, List.setIfInBounds_toArray, List.set_cons_zero, List.set_cons_succ]
        refine' wpAnyH_take (i := 4) (v := ?v4y1) ?hi4y1 (by kernel_rfl) (by kernel_rfl) (by kernel_rfl) ?hq4y1 (Or.inl ⟨?hw4y1, ?hy4y1⟩) (by assumption) ?hr4y1
        case hi4y1 => (simp only [List.getElem?_toArray, List.getElem?_cons_zero, List.getElem?_cons_succ]; exact rfl)
        case hq4y1 => exact fun _ _ _ h => h
        case hw4y1 => rfl
        case hy4y1 =>
          intro wz hz
          (try dsimp only at hz)
          go_simp
          all_goals with_reducible rfl
        try simp only [Act.put, List.setIfInBounds_toArray, List.set_cons_zero, List.set_cons_succ]
        refine wpAnyH_ready (rs := [5, 10]) (by kernel_rfl) (by simp) ?_
        refine AllReadyH.cons (o := ?hoA1) ?hioA1 (fun KA hKA => ?hsA1) ?hmA1
        case hioA1 => (simp only [List.getElem?_toArray, List.getElem?_cons_zero, List.getElem?_cons_succ]; exact rfl)
        case hsA1 =>
          go_simp
          go_at_call 8
          with_reducible refine (hf2.out _ ?_).mono ?_
          · assumption
          rintro e w5 ⟨rfl, hS5, hb5⟩
          refine hKA.out _ _ hS5 (fun hHeld5 => ?_)
          try simp only [Act.put, List.setIfInBounds_toArray, List.set_cons_zero, List.set_cons_succ]
          refine' wpAnyH_take (i := 6) (v := ?v6yA1) ?hi6yA1 (by kernel_rfl) (by kernel_rfl) (by kernel_rfl) ?hq6yA1 (Or.inl ⟨?hw6yA1, ?hy6yA1⟩) (by assumption) ?hr6yA1
          case hi6yA1 => (simp only [List.getElem?_toArray, List.getElem?_cons_zero, List.getElem?_cons_succ]; exact rfl)
          case hq6yA1 => exact fun _ _ _ h => h
          case hw6yA1 => rfl
          case hy6yA1 =>
            intro wz hz
            (try dsimp only at hz)
            go_simp
            all_goals with_reducible rfl
          try simp only [Act.put, List.setIfInBounds_toArray, List.set_cons_zero, List.set_cons_succ]
          refine' wpAnyH_take (i := 7) (v := ?v7yA1) ?hi7yA1 (by kernel_rfl) (by kernel_rfl) (by kernel_rfl) ?hq7yA1 (Or.inl ⟨?hw7yA1, ?hy7yA1⟩) (by assumption) ?hr7yA1
          case hi7yA1 => (simp only [List.getElem?_toArray, List.getElem?_cons_zero, List.getElem?_cons_succ]; exact rfl)
          case hq7yA1 => exact fun _ _ _ h => h
          case hw7yA1 => rfl
          case hy7yA1 =>
            intro wz hz
            (try dsimp only at hz)
            go_simp
            all_goals with_reducible rfl
          try simp only [Act.put, List.setIfInBounds_toArray, List.set_cons_zero, List.set_cons_succ]
          refine' wpAnyH_take (i := 8) (v := ?v8yA1) ?hi8yA1 (by kernel_rfl) (by kernel_rfl) (by kernel_rfl) ?hq8yA1 (Or.inl ⟨?hw8yA1, ?hy8yA1⟩) (by assumption) ?hr8yA1
          case hi8yA1 => (simp only [List.getElem?_toArray, List.getElem?_cons_zero, List.getElem?_cons_succ]; exact rfl)
          case hq8yA1 => exact fun _ _ _ h => h
          case hw8yA1 => rfl
          case hy8yA1 =>
            intro wz hz
            (try dsimp only at hz)
            go_simp
            all_goals with_reducible rfl
          try simp only [Act.put, List.setIfInBounds_toArray, List.set_cons_zero, List.set_cons_succ]
          refine' wpAnyH_take (i := 9) (v := ?v9yA1) ?hi9yA1 (by kernel_rfl) (by kernel_rfl) (by kernel_rfl) ?hq9yA1 (Or.inl ⟨?hw9yA1, ?hy9yA1⟩) (by assumption) ?hr9yA1
          case hi9yA1 => (simp only [List.getElem?_toArray, List.getElem?_cons_zero, List.getElem?_cons_succ]; exact rfl)
          case hq9yA1 => exact fun _ _ _ h => h
          case hw9yA1 => rfl
          case hy9yA1 =>
            intro wz hz
            (try dsimp only at hz)
            go_simp
            all_goals with_reducible rfl
          try simp only [Act.put, List.setIfInBounds_toArray, List.set_cons_zero, List.set_cons_succ]
          refine wpAnyH_ready (rs := [10]) (by kernel_rfl) (by simp) ?_
          refine AllReadyH.cons (o := ?hoB1) ?hioB1 (fun KB hKB => ?hsB1) AllReadyH.nil
          case hioB1 => (simp only [List.getElem?_toArray, List.getElem?_cons_zero, List.getElem?_cons_succ]; exact rfl)
          case hsB1 =>
            go_simp
            refine hKB.out _ _ (hal.out _ _ hS5) (fun hHeldB => ?_)
            try simp only [Act.put, List.setIfInBounds_toArray, List.set_cons_zero, List.set_cons_succ]
            refine wpAnyH_ready (rs := [11]) (by kernel_rfl) (by simp) ?_
            refine AllReadyH.cons (o := ?hoC1) ?hioC1 (fun KC hKC => ?hsC1) AllReadyH.nil
            case hioC1 => (simp only [List.getElem?_toArray, List.getElem?_cons_zero, List.getElem?_cons_succ]; exact rfl)
            case hsC1 =>
              go_simp
              refine hKC.out _ _ (hal.out _ _ hS5) (fun hHeldC => ?_)
              try simp only [Act.put, List.setIfInBounds_toArray, List.set_cons_zero, List.set_cons_succ]
              refine' wpAnyH_take (i := 12) (v := ?v12yC1) ?hi12yC1 (by kernel_rfl) (by kernel_rfl) (by kernel_rfl) ?hq12yC1 (Or.inl ⟨?hw12yC1, ?hy12yC1⟩) (by assumption) ?hr12yC1
              case hi12yC1 => (simp only [List.getElem?_toArray, List.getElem?_cons_zero, List.getElem?_cons_succ]; exact rfl)
              case hq12yC1 => exact fun _ _ _ h => h
              case hw12yC1 => rfl
              case hy12yC1 =>
                intro wz hz
                (try dsimp only at hz)
                go_simp
                all_goals with_reducible rfl
              try simp only [Act.put, List.setIfInBounds_toArray, List.set_cons_zero, List.set_cons_succ]
              refine' wpAnyH_take (i := 13) (v := ?v13yC1) ?hi13yC1 (by kernel_rfl) (by kernel_rfl) (by kernel_rfl) ?hq13yC1 (Or.inl ⟨?hw13yC1, ?hy13yC1⟩) (by assumption) ?hr13yC1
              case hi13yC1 => (simp only [List.getElem?_toArray, List.getElem?_cons_zero, List.getElem?_cons_succ]; exact rfl)
              case hq13yC1 => exact fun _ _ _ h => h
              case hw13yC1 => rfl
              case hy13yC1 =>
                intro wz hz
                (try dsimp only at hz)
                go_simp
                all_goals with_reducible rfl
              try simp only [Act.put, List.setIfInBounds_toArray, List.set_cons_zero, List.set_cons_succ]
              refine wpAnyH_done (by kernel_rfl) ?_ _
              have hbW := hS5.2.2.2.2.alloc hS5.2.2.2.2.size (.cells #[.int .i64 b, .int .i64 2, .int .i64 (b + offT 2)] 23)
              have t6 := HT.out.below hbW
              have u6 := turn_new w5 b 2 (b + offT 2)
              have hne : w5.heap.size ≠ w4.heap.size := by have := HT.out.lt; have := hS5.2.2.2.2.size; omega
              obtain ⟨p0, p1, p2, r0, r1, r2⟩ := t6.cells
              obtain ⟨u0, u1, u2, _⟩ := u6.cells
              have Fin := Lib.hid (plans_next hk2.out.1 hk2.out.2.1 HT.out hk2.out.2.2.2.1 hk2.out.2.2.2.2 hbW b 2 (b + offT 2))
              unfold putT3 at Fin
              (try unfold putT3 at u0 u1 u2)
              (try unfold putT3 at p0 p1 p2 r0 r1 r2)
              go_wp2
              go_roundw
              case rel => exact ⟨2, by omega, by go_num, Lib.hid ⟨Fin.out.1, Fin.out.2.1, ⟨_, _, _, Fin.out.2.2.1, fun h => ⟨rfl, rfl, rfl⟩⟩, Fin.out.2.2.2, hk2.out.2.2.2.2⟩⟩
              case measure => simp [intOf]
        case hmA1 =>
          refine AllReadyH.cons (o := ?hoD1) ?hioD1 (fun KD hKD => ?hsD1) AllReadyH.nil
          case hioD1 => (simp only [List.getElem?_toArray, List.getElem?_cons_zero, List.getElem?_cons_succ]; exact rfl)
          case hsD1 =>
            go_simp
            refine hKD.out _ _ (by first | exact hS6.out | exact hS7.out | exact hal.out _ _ (by assumption)) (fun hHeldD => ?_)
            try simp only [Act.put, List.setIfInBounds_toArray, List.set_cons_zero, List.set_cons_succ]
            refine wpAnyH_ready (rs := [5]) (by kernel_rfl) (by simp) ?_
            refine AllReadyH.cons (o := ?hoE1) ?hioE1 (fun KE hKE => ?hsE1) AllReadyH.nil
            case hioE1 => (simp only [List.getElem?_toArray, List.getElem?_cons_zero, List.getElem?_cons_succ]; exact rfl)
            case hsE1 =>
              go_simp
              go_at_call 8
              with_reducible refine (hf2.out _ ?_).mono ?_
              · assumption
              rintro e w5 ⟨rfl, hS5, hb5⟩
              have nb5 : TurnAt w5 wr.heap.size 0 0 0 := (hb5.block wr.heap.size (by simp)).trans (by first | exact turn_new wr 0 0 0 | exact turn_new wr.drew 0 0 0)
              obtain ⟨ka0, ka1, ka2, qa0, qa1, qa2⟩ := nb5.cells
              have hnb := Lib.hid nb5
              clear nb5
              refine hKE.out _ _ hS5 (fun hHeldE => ?_)
              try simp only [Act.put, List.setIfInBounds_toArray, List.set_cons_zero, List.set_cons_succ]
              refine' wpAnyH_take (i := 6) (v := ?v6yE1) ?hi6yE1 (by kernel_rfl) (by kernel_rfl) (by kernel_rfl) ?hq6yE1 (Or.inl ⟨?hw6yE1, ?hy6yE1⟩) (by assumption) ?hr6yE1
              case hi6yE1 => (simp only [List.getElem?_toArray, List.getElem?_cons_zero, List.getElem?_cons_succ]; exact rfl)
              case hq6yE1 => exact fun _ _ _ h => h
              case hw6yE1 => rfl
              case hy6yE1 =>
                intro wz hz
                (try dsimp only at hz)
                go_simp
                all_goals with_reducible rfl
              try simp only [Act.put, List.setIfInBounds_toArray, List.set_cons_zero, List.set_cons_succ]
              refine' wpAnyH_take (i := 7) (v := ?v7yE1) ?hi7yE1 (by kernel_rfl) (by kernel_rfl) (by kernel_rfl) ?hq7yE1 (Or.inl ⟨?hw7yE1, ?hy7yE1⟩) (by assumption) ?hr7yE1
              case hi7yE1 => (simp only [List.getElem?_toArray, List.getElem?_cons_zero, List.getElem?_cons_succ]; exact rfl)
              case hq7yE1 => exact fun _ _ _ h => h
              case hw7yE1 => rfl
              case hy7yE1 =>
                intro wz hz
                (try dsimp only at hz)
                go_simp
                all_goals with_reducible rfl
              try simp only [Act.put, List.setIfInBounds_toArray, List.set_cons_zero, List.set_cons_succ]
              refine' wpAnyH_take (i := 8) (v := ?v8yE1) ?hi8yE1 (by kernel_rfl) (by kernel_rfl) (by kernel_rfl) ?hq8yE1 (Or.inl ⟨?hw8yE1, ?hy8yE1⟩) (by assumption) ?hr8yE1
              case hi8yE1 => (simp only [List.getElem?_toArray, List.getElem?_cons_zero, List.getElem?_cons_succ]; exact rfl)
              case hq8yE1 => exact fun _ _ _ h => h
              case hw8yE1 => rfl
              case hy8yE1 =>
                intro wz hz
                (try dsimp only at hz)
                go_simp
                all_goals with_reducible rfl
              try simp only [Act.put, List.setIfInBounds_toArray, List.set_cons_zero, List.set_cons_succ]
              refine' wpAnyH_take (i := 9) (v := ?v9yE1) ?hi9yE1 (by kernel_rfl) (by kernel_rfl) (by kernel_rfl) ?hq9yE1 (Or.inl ⟨?hw9yE1, ?hy9yE1⟩) (by assumption) ?hr9yE1
              case hi9yE1 => (simp only [List.getElem?_toArray, List.getElem?_cons_zero, List.getElem?_cons_succ]; exact rfl)
              case hq9yE1 => exact fun _ _ _ h => h
              case hw9yE1 => rfl
              case hy9yE1 =>
                intro wz hz
                (try dsimp only at hz)
                go_simp
                all_goals with_reducible rfl
              try simp only [Act.put, List.setIfInBounds_toArray, List.set_cons_zero, List.set_cons_succ]
              refine wpAnyH_ready (rs := [11]) (by kernel_rfl) (by simp) ?_
              refine AllReadyH.cons (o := ?hoF1) ?hioF1 (fun KF hKF => ?hsF1) AllReadyH.nil
              case hioF1 => (simp only [List.getElem?_toArray, List.getElem?_cons_zero, List.getElem?_cons_succ]; exact rfl)
              case hsF1 =>
                go_simp
                refine hKF.out _ _ (hst.out _ _ _ _ _ (Nat.le_refl _) hS5) (fun hHeldF => ?_)
                try simp only [Act.put, List.setIfInBounds_toArray, List.set_cons_zero, List.set_cons_succ]
                refine' wpAnyH_take (i := 12) (v := ?v12yF1) ?hi12yF1 (by kernel_rfl) (by kernel_rfl) (by kernel_rfl) ?hq12yF1 (Or.inl ⟨?hw12yF1, ?hy12yF1⟩) (by assumption) ?hr12yF1
                case hi12yF1 => (simp only [List.getElem?_toArray, List.getElem?_cons_zero, List.getElem?_cons_succ]; exact rfl)
                case hq12yF1 => exact fun _ _ _ h => h
                case hw12yF1 => rfl
                case hy12yF1 =>
                  intro wz hz
                  (try dsimp only at hz)
                  go_simp
                  all_goals with_reducible rfl
                try simp only [Act.put, List.setIfInBounds_toArray, List.set_cons_zero, List.set_cons_succ]
                refine' wpAnyH_take (i := 13) (v := ?v13yF1) ?hi13yF1 (by kernel_rfl) (by kernel_rfl) (by kernel_rfl) ?hq13yF1 (Or.inl ⟨?hw13yF1, ?hy13yF1⟩) (by assumption) ?hr13yF1
                case hi13yF1 => (simp only [List.getElem?_toArray, List.getElem?_cons_zero, List.getElem?_cons_succ]; exact rfl)
                case hq13yF1 => exact fun _ _ _ h => h
                case hw13yF1 => rfl
                case hy13yF1 =>
                  intro wz hz
                  (try dsimp only at hz)
                  go_simp
                  all_goals with_reducible rfl
                try simp only [Act.put, List.setIfInBounds_toArray, List.set_cons_zero, List.set_cons_succ]
                refine wpAnyH_done (by kernel_rfl) ?_ _
                have hbW := putT3_below hS5.2.2.2.2 (Nat.le_refl wr.heap.size) b 2 (b + offT 2)
                have t6 := HT.out.below hbW
                have u6 := hnb.out.put b 2 (b + offT 2)
                have hne : wr.heap.size ≠ w4.heap.size := by have := HT.out.lt; omega
                obtain ⟨p0, p1, p2, r0, r1, r2⟩ := t6.cells
                obtain ⟨u0, u1, u2, _⟩ := u6.cells
                have Fin := Lib.hid (plans_next hk2.out.1 hk2.out.2.1 HT.out hk2.out.2.2.2.1 hk2.out.2.2.2.2 hbW b 2 (b + offT 2))
                unfold putT3 at Fin
                (try unfold putT3 at u0 u1 u2)
                (try unfold putT3 at p0 p1 p2 r0 r1 r2)
                go_wp2
                go_roundw
                case rel => exact ⟨2, by omega, by go_num, Lib.hid ⟨Fin.out.1, Fin.out.2.1, ⟨_, _, _, Fin.out.2.2.1, fun h => ⟨rfl, rfl, rfl⟩⟩, Fin.out.2.2.2, hk2.out.2.2.2.2⟩⟩
                case measure => simp [intOf]
      | 2, _ =>
        have ex := hfx (by omega)
        rw [ex.1, show x1 = 3 from ex.2.1, ex.2.2] at hf
        clear ex hfx
        obtain ⟨zp, hop⟩ := hprev.out 1 rfl
        obtain ⟨o', ho'⟩ : ∃ o', offT 1 = o' := ⟨_, rfl⟩
        rw [ho'] at zp hop
        have s2 : decide (b + o ≤ b + o') = false := decide_eq_false (by omega)
        have s3 : (b + o != b + o) = false := by simp
        have s4 : IntKind.i64.wrap (1 : Int) = 1 := by decide
        have HT := Lib.hid htn2
        clear htn2
        have hcl : Hid (∀ W, Below wr.heap.size wr W → (W.cell? ⟨g1, 2, none⟩ = some (.int .i64 (b + o)) ∧ W.cell? ⟨g2, 2, none⟩ = some (.int .i64 (later + o)) ∧ W.cell? ⟨w4.heap.size, 2, none⟩ = some (.int .i64 (b + o)) ∧ W.cell? ⟨g1, 1, none⟩ = some (.int .i64 (b + o')) ∧ Below wr.heap.size wr W) ∧ (W.cell? ⟨w4.heap.size, 0, none⟩ = some (.int .i64 b) ∧ W.cell? ⟨w4.heap.size, 1, none⟩ = some (.int .i64 2) ∧ W.cell? ⟨w4.heap.size, 2, none⟩ = some (.int .i64 (b + o)) ∧ W.cell? ⟨g1, 2, none⟩ = some (.int .i64 (b + o)) ∧ Below wr.heap.size wr W)) := Lib.hid fun W hW => by
          have hc : ∀ g o v, wr.cell? ⟨g, o, none⟩ = some v → W.cell? ⟨g, o, none⟩ = some v := fun g o v h => (hW.cell (p := ⟨g, o, none⟩) (cell_lt15 h)).trans h
          exact ⟨⟨hc _ _ _ z1, hc _ _ _ z2, hc _ _ _ c2, hc _ _ _ zp, hW⟩, hc _ _ _ c0, hc _ _ _ c1, hc _ _ _ c2, hc _ _ _ z1, hW⟩
        have hS0 := Lib.hid (hcl.out _ (Below.refl wr.heap.size wr)).1
        have hS1 := Lib.hid (hcl.out _ (Below.refl wr.heap.size wr).drew).1
        clear z1 z2 c0 c1 c2 zp hprev
        go_wp2_with fail
        refine wp_region_held_drew (S := (fun W => W.cell? ⟨g1, 2, none⟩ = some (.int .i64 (b + o)) ∧ W.cell? ⟨g2, 2, none⟩ = some (.int .i64 (later + o)) ∧ W.cell? ⟨w4.heap.size, 2, none⟩ = some (.int .i64 (b + o)) ∧ W.cell? ⟨g1, 1, none⟩ = some (.int .i64 (b + o')) ∧ Below wr.heap.size wr W)) (by kernel_rfl) (by first | assumption | exact hS0.out | exact hS1.out) (fun hHeld => ?_)
        refine' wpAnyH_take (i := 0) (v := ?v0z2) ?hi0z2 (by kernel_rfl) (by kernel_rfl) (by kernel_rfl) ?hq0z2 (Or.inl ⟨?hw0z2, ?hy0z2⟩) (by assumption) ?hr0z2
        case hi0z2 => (simp only [List.getElem?_toArray, List.getElem?_cons_zero]; exact rfl)
        case hq0z2 => exact fun _ _ _ h => h
        case hw0z2 => rfl
        case hy0z2 =>
          intro wz hz
          (try dsimp only at hz)
          go_simp
          all_goals with_reducible rfl
        try simp only [Act.put, List.setIfInBounds_toArray, List.set_cons_zero, List.set_cons_succ]
        refine' wpAnyH_take (i := 1) (v := ?v1z2) ?hi1z2 (by kernel_rfl) (by kernel_rfl) (by kernel_rfl) ?hq1z2 (Or.inl ⟨?hw1z2, ?hy1z2⟩) (by assumption) ?hr1z2
        case hi1z2 => (simp only [List.getElem?_toArray, List.getElem?_cons_zero, List.getElem?_cons_succ]; exact rfl)
        case hq1z2 => exact fun _ _ _ h => h
        case hw1z2 => rfl
        case hy1z2 =>
          intro wz hz
          (try dsimp only at hz)
          go_simp
          all_goals with_reducible rfl
        try simp only [Act.put, List.setIfInBounds_toArray, List.set_cons_zero, List.set_cons_succ]
        refine' wpAnyH_take (i := 2) (v := ?v2z2) ?hi2z2 (by kernel_rfl) (by kernel_rfl) (by kernel_rfl) ?hq2z2 (Or.inl ⟨?hw2z2, ?hy2z2⟩) (by assumption) ?hr2z2
        case hi2z2 => (simp only [List.getElem?_toArray, List.getElem?_cons_zero, List.getElem?_cons_succ]; exact rfl)
        case hq2z2 => exact fun _ _ _ h => h
        case hw2z2 => rfl
        case hy2z2 =>
          intro wz hz
          (try dsimp only at hz)
          go_simp
          all_goals with_reducible rfl
        try simp only [Act.put, List.setIfInBounds_toArray, List.set_cons_zero, List.set_cons_succ]
        refine' wpAnyH_take (i := 3) (v := ?v3z2) ?hi3z2 (by kernel_rfl) (by kernel_rfl) (by kernel_rfl) ?hq3z2 (Or.inl ⟨?hw3z2, ?hy3z2⟩) (by assumption) ?hr3z2
        case hi3z2 => (simp only [List.getElem?_toArray, List.getElem?_cons_zero, List.getElem?_cons_succ]; exact rfl)
        case hq3z2 => exact fun _ _ _ h => h
        case hw3z2 => rfl
        case hy3z2 =>
          intro wz hz
          (try dsimp only at hz)
          go_simp
          all_goals with_reducible rfl
        try simp only [Act.put, List.setIfInBounds_toArray, List.set_cons_zero, List.set_cons_succ]
        refine' wpAnyH_take (i := 4) (v := ?v4z2) ?hi4z2 (by kernel_rfl) (by kernel_rfl) (by kernel_rfl) ?hq4z2 (Or.inl ⟨?hw4z2, ?hy4z2⟩) (by assumption) ?hr4z2
        case hi4z2 => (simp only [List.getElem?_toArray, List.getElem?_cons_zero, List.getElem?_cons_succ]; exact rfl)
        case hq4z2 => exact fun _ _ _ h => h
        case hw4z2 => rfl
        case hy4z2 =>
          intro wz hz
          (try dsimp only at hz)
          go_simp
          all_goals with_reducible rfl
        try simp only [Act.put, List.setIfInBounds_toArray, List.set_cons_zero, List.set_cons_succ]
        refine' wpAnyH_take (i := 5) (v := ?v5z2) ?hi5z2 (by kernel_rfl) (by kernel_rfl) (by kernel_rfl) ?hq5z2 (Or.inl ⟨?hw5z2, ?hy5z2⟩) (by assumption) ?hr5z2
        case hi5z2 => (simp only [List.getElem?_toArray, List.getElem?_cons_zero, List.getElem?_cons_succ]; exact rfl)
        case hq5z2 => exact fun _ _ _ h => h
        case hw5z2 => rfl
        case hy5z2 =>
          intro wz hz
          (try dsimp only at hz)
          go_simp
          all_goals with_reducible rfl
        try simp only [Act.put, List.setIfInBounds_toArray, List.set_cons_zero, List.set_cons_succ]
        refine' wpAnyH_take (i := 6) (v := ?v6z2) ?hi6z2 (by kernel_rfl) (by kernel_rfl) (by kernel_rfl) ?hq6z2 (Or.inl ⟨?hw6z2, ?hy6z2⟩) (by assumption) ?hr6z2
        case hi6z2 => (simp only [List.getElem?_toArray, List.getElem?_cons_zero, List.getElem?_cons_succ]; exact rfl)
        case hq6z2 => exact fun _ _ _ h => h
        case hw6z2 => rfl
        case hy6z2 =>
          intro wz hz
          (try dsimp only at hz)
          go_simp
          all_goals with_reducible rfl
        try simp only [Act.put, List.setIfInBounds_toArray, List.set_cons_zero, List.set_cons_succ]
        refine' wpAnyH_take (i := 7) (v := ?v7z2) ?hi7z2 (by kernel_rfl) (by kernel_rfl) (by kernel_rfl) ?hq7z2 (Or.inl ⟨?hw7z2, ?hy7z2⟩) (by assumption) ?hr7z2
        case hi7z2 => (simp only [List.getElem?_toArray, List.getElem?_cons_zero, List.getElem?_cons_succ]; exact rfl)
        case hq7z2 => exact fun _ _ _ h => h
        case hw7z2 => rfl
        case hy7z2 =>
          intro wz hz
          (try dsimp only at hz)
          go_simp
          all_goals with_reducible rfl
        try simp only [Act.put, List.setIfInBounds_toArray, List.set_cons_zero, List.set_cons_succ]
        refine' wpAnyH_take (i := 8) (v := ?v8z2) ?hi8z2 (by kernel_rfl) (by kernel_rfl) (by kernel_rfl) ?hq8z2 (Or.inl ⟨?hw8z2, ?hy8z2⟩) (by assumption) ?hr8z2
        case hi8z2 => (simp only [List.getElem?_toArray, List.getElem?_cons_zero, List.getElem?_cons_succ]; exact rfl)
        case hq8z2 => exact fun _ _ _ h => h
        case hw8z2 => rfl
        case hy8z2 =>
          intro wz hz
          (try dsimp only at hz)
          go_simp
          all_goals with_reducible rfl
        try simp only [Act.put, List.setIfInBounds_toArray, List.set_cons_zero, List.set_cons_succ]
        refine' wpAnyH_take (i := 9) (v := ?v9z2) ?hi9z2 (by kernel_rfl) (by kernel_rfl) (by kernel_rfl) ?hq9z2 (Or.inl ⟨?hw9z2, ?hy9z2⟩) (by assumption) ?hr9z2
        case hi9z2 => (simp only [List.getElem?_toArray, List.getElem?_cons_zero, List.getElem?_cons_succ]; exact rfl)
        case hq9z2 => exact fun _ _ _ h => h
        case hw9z2 => rfl
        case hy9z2 =>
          intro wz hz
          (try dsimp only at hz)
          go_simp
          all_goals with_reducible rfl
        try simp only [Act.put, List.setIfInBounds_toArray, List.set_cons_zero, List.set_cons_succ]
        refine' wpAnyH_take (i := 10) (v := ?v10z2) ?hi10z2 (by kernel_rfl) (by kernel_rfl) (by kernel_rfl) ?hq10z2 (Or.inl ⟨?hw10z2, ?hy10z2⟩) (by assumption) ?hr10z2
        case hi10z2 => (simp only [List.getElem?_toArray, List.getElem?_cons_zero, List.getElem?_cons_succ]; exact rfl)
        case hq10z2 => exact fun _ _ _ h => h
        case hw10z2 => rfl
        case hy10z2 =>
          intro wz hz
          (try dsimp only at hz)
          go_simp
          all_goals with_reducible rfl
        try simp only [Act.put, List.setIfInBounds_toArray, List.set_cons_zero, List.set_cons_succ]
        refine' wpAnyH_take (i := 11) (v := ?v11z2) ?hi11z2 (by kernel_rfl) (by kernel_rfl) (by kernel_rfl) ?hq11z2 (Or.inl ⟨?hw11z2, ?hy11z2⟩) (by assumption) ?hr11z2
        case hi11z2 => (simp only [List.getElem?_toArray, List.getElem?_cons_zero, List.getElem?_cons_succ]; exact rfl)
        case hq11z2 => exact fun _ _ _ h => h
        case hw11z2 => rfl
        case hy11z2 =>
          intro wz hz
          (try dsimp only at hz)
          go_simp
          all_goals with_reducible rfl
        try simp only [Act.put, List.setIfInBounds_toArray, List.set_cons_zero, List.set_cons_succ]
        refine' wpAnyH_take (i := 12) (v := ?v12z2) ?hi12z2 (by kernel_rfl) (by kernel_rfl) (by kernel_rfl) ?hq12z2 (Or.inl ⟨?hw12z2, ?hy12z2⟩) (by assumption) ?hr12z2
        case hi12z2 => (simp only [List.getElem?_toArray, List.getElem?_cons_zero, List.getElem?_cons_succ]; exact rfl)
        case hq12z2 => exact fun _ _ _ h => h
        case hw12z2 => rfl
        case hy12z2 =>
          intro wz hz
          (try dsimp only at hz)
          go_simp
          all_goals with_reducible rfl
        try simp only [Act.put, List.setIfInBounds_toArray, List.set_cons_zero, List.set_cons_succ]
        refine' wpAnyH_take (i := 13) (v := ?v13z2) ?hi13z2 (by kernel_rfl) (by kernel_rfl) (by kernel_rfl) ?hq13z2 (Or.inl ⟨?hw13z2, ?hy13z2⟩) (by assumption) ?hr13z2
        case hi13z2 => (simp only [List.getElem?_toArray, List.getElem?_cons_zero, List.getElem?_cons_succ]; exact rfl)
        case hq13z2 => exact fun _ _ _ h => h
        case hw13z2 => rfl
        case hy13z2 =>
          intro wz hz
          (try dsimp only at hz)
          go_simp
          all_goals with_reducible rfl
        try simp only [Act.put, List.setIfInBounds_toArray, List.set_cons_zero, List.set_cons_succ]
        refine' wpAnyH_take (i := 14) (v := ?v14z2) ?hi14z2 (by kernel_rfl) (by kernel_rfl) (by kernel_rfl) ?hq14z2 (Or.inl ⟨?hw14z2, ?hy14z2⟩) (by assumption) ?hr14z2
        case hi14z2 => (simp only [List.getElem?_toArray, List.getElem?_cons_zero, List.getElem?_cons_succ]; exact rfl)
        case hq14z2 => exact fun _ _ _ h => h
        case hw14z2 => rfl
        case hy14z2 =>
          intro wz hz
          (try dsimp only at hz)
          go_simp
          all_goals with_reducible rfl
        try simp only [Act.put, List.setIfInBounds_toArray, List.set_cons_zero, List.set_cons_succ]
        refine' wpAnyH_take (i := 15) (v := ?v15z2) ?hi15z2 (by kernel_rfl) (by kernel_rfl) (by kernel_rfl) ?hq15z2 (Or.inl ⟨?hw15z2, ?hy15z2⟩) (by assumption) ?hr15z2
        case hi15z2 => (simp only [List.getElem?_toArray, List.getElem?_cons_zero, List.getElem?_cons_succ]; exact rfl)
        case hq15z2 => exact fun _ _ _ h => h
        case hw15z2 => rfl
        case hy15z2 =>
          intro wz hz
          (try dsimp only at hz)
          go_simp
          all_goals with_reducible rfl
        try simp only [Act.put, List.setIfInBounds_toArray, List.set_cons_zero, List.set_cons_succ]
        refine' wpAnyH_take (i := 16) (v := ?v16z2) ?hi16z2 (by kernel_rfl) (by kernel_rfl) (by kernel_rfl) ?hq16z2 (Or.inl ⟨?hw16z2, ?hy16z2⟩) (by assumption) ?hr16z2
        case hi16z2 => (simp only [List.getElem?_toArray, List.getElem?_cons_zero, List.getElem?_cons_succ]; exact rfl)
        case hq16z2 => exact fun _ _ _ h => h
        case hw16z2 => rfl
        case hy16z2 =>
          intro wz hz
          (try dsimp only at hz)
          go_simp
          all_goals with_reducible rfl
        try simp only [Act.put, List.setIfInBounds_toArray, List.set_cons_zero, List.set_cons_succ]
        refine' wpAnyH_take (i := 17) (v := ?v17z2) ?hi17z2 (by kernel_rfl) (by kernel_rfl) (by kernel_rfl) ?hq17z2 (Or.inl ⟨?hw17z2, ?hy17z2⟩) (by assumption) ?hr17z2
        case hi17z2 => (simp only [List.getElem?_toArray, List.getElem?_cons_zero, List.getElem?_cons_succ]; exact rfl)
        case hq17z2 => exact fun _ _ _ h => h
        case hw17z2 => rfl
        case hy17z2 =>
          intro wz hz
          (try dsimp only at hz)
          go_simp
          all_goals with_reducible rfl
        try simp only [Act.put, List.setIfInBounds_toArray, List.set_cons_zero, List.set_cons_succ]
        refine' wpAnyH_take (i := 18) (v := ?v18z2) ?hi18z2 (by kernel_rfl) (by kernel_rfl) (by kernel_rfl) ?hq18z2 (Or.inl ⟨?hw18z2, ?hy18z2⟩) (by assumption) ?hr18z2
        case hi18z2 => (simp only [List.getElem?_toArray, List.getElem?_cons_zero, List.getElem?_cons_succ]; exact rfl)
        case hq18z2 => exact fun _ _ _ h => h
        case hw18z2 => rfl
        case hy18z2 =>
          intro wz hz
          (try dsimp only at hz)
          go_simp
          all_goals with_reducible rfl
        try simp only [Act.put, List.setIfInBounds_toArray, List.set_cons_zero, List.set_cons_succ]
        refine' wpAnyH_take (i := 19) (v := ?v19z2) ?hi19z2 (by kernel_rfl) (by kernel_rfl) (by kernel_rfl) ?hq19z2 (Or.inl ⟨?hw19z2, ?hy19z2⟩) (by assumption) ?hr19z2
        case hi19z2 => (simp only [List.getElem?_toArray, List.getElem?_cons_zero, List.getElem?_cons_succ]; exact rfl)
        case hq19z2 => exact fun _ _ _ h => h
        case hw19z2 => rfl
        case hy19z2 =>
          intro wz hz
          (try dsimp only at hz)
          go_simp
          all_goals with_reducible rfl
        try simp only [Act.put, List.setIfInBounds_toArray, List.set_cons_zero, List.set_cons_succ]
        refine' wpAnyH_take (i := 20) (v := ?v20z2) ?hi20z2 (by kernel_rfl) (by kernel_rfl) (by kernel_rfl) ?hq20z2 (Or.inl ⟨?hw20z2, ?hy20z2⟩) (by assumption) ?hr20z2
        case hi20z2 => (simp only [List.getElem?_toArray, List.getElem?_cons_zero, List.getElem?_cons_succ]; exact rfl)
        case hq20z2 => exact fun _ _ _ h => h
        case hw20z2 => rfl
        case hy20z2 =>
          intro wz hz
          (try dsimp only at hz)
          go_simp
          all_goals with_reducible rfl
        try simp only [Act.put, List.setIfInBounds_toArray, List.set_cons_zero, List.set_cons_succ]
        refine' wpAnyH_take (i := 21) (v := ?v21z2) ?hi21z2 (by kernel_rfl) (by kernel_rfl) (by kernel_rfl) ?hq21z2 (Or.inl ⟨?hw21z2, ?hy21z2⟩) (by assumption) ?hr21z2
        case hi21z2 => (simp only [List.getElem?_toArray, List.getElem?_cons_zero, List.getElem?_cons_succ]; exact rfl)
        case hq21z2 => exact fun _ _ _ h => h
        case hw21z2 => rfl
        case hy21z2 =>
          intro wz hz
          (try dsimp only at hz)
          go_simp
          all_goals with_reducible rfl
        try simp only [Act.put, List.setIfInBounds_toArray, List.set_cons_zero, List.set_cons_succ]
        refine' wpAnyH_take (i := 22) (v := ?v22z2) ?hi22z2 (by kernel_rfl) (by kernel_rfl) (by kernel_rfl) ?hq22z2 (Or.inl ⟨?hw22z2, ?hy22z2⟩) (by assumption) ?hr22z2
        case hi22z2 => (simp only [List.getElem?_toArray, List.getElem?_cons_zero, List.getElem?_cons_succ]; exact rfl)
        case hq22z2 => exact fun _ _ _ h => h
        case hw22z2 => rfl
        case hy22z2 =>
          intro wz hz
          (try dsimp only at hz)
          go_simp
          all_goals with_reducible rfl
        try simp only [Act.put, List.setIfInBounds_toArray, List.set_cons_zero, List.set_cons_succ]
        refine' wpAnyH_take (i := 23) (v := ?v23z2) ?hi23z2 (by kernel_rfl) (by kernel_rfl) (by kernel_rfl) ?hq23z2 (Or.inl ⟨?hw23z2, ?hy23z2⟩) (by assumption) ?hr23z2
        case hi23z2 => (simp only [List.getElem?_toArray, List.getElem?_cons_zero, List.getElem?_cons_succ]; exact rfl)
        case hq23z2 => exact fun _ _ _ h => h
        case hw23z2 => rfl
        case hy23z2 =>
          intro wz hz
          (try dsimp only at hz)
          go_simp
          all_goals with_reducible rfl
        try simp only [Act.put, List.setIfInBounds_toArray, List.set_cons_zero, List.set_cons_succ]
        refine' wpAnyH_take (i := 24) (v := ?v24z2) ?hi24z2 (by kernel_rfl) (by kernel_rfl) (by kernel_rfl) ?hq24z2 (Or.inl ⟨?hw24z2, ?hy24z2⟩) (by assumption) ?hr24z2
        case hi24z2 => (simp only [List.getElem?_toArray, List.getElem?_cons_zero, List.getElem?_cons_succ]; exact rfl)
        case hq24z2 => exact fun _ _ _ h => h
        case hw24z2 => rfl
        case hy24z2 =>
          intro wz hz
          (try dsimp only at hz)
          go_simp
          all_goals with_reducible rfl
        try simp only [Act.put, List.setIfInBounds_toArray, List.set_cons_zero, List.set_cons_succ]
        refine' wpAnyH_take (i := 25) (v := ?v25z2) ?hi25z2 (by kernel_rfl) (by kernel_rfl) (by kernel_rfl) ?hq25z2 (Or.inl ⟨?hw25z2, ?hy25z2⟩) (by assumption) ?hr25z2
        case hi25z2 => (simp only [List.getElem?_toArray, List.getElem?_cons_zero, List.getElem?_cons_succ]; exact rfl)
        case hq25z2 => exact fun _ _ _ h => h
        case hw25z2 => rfl
        case hy25z2 =>
          intro wz hz
          (try dsimp only at hz)
          go_simp
          all_goals with_reducible rfl
        try simp only [Act.put, List.setIfInBounds_toArray, List.set_cons_zero, List.set_cons_succ]
        refine' wpAnyH_take (i := 26) (v := ?v26z2) ?hi26z2 (by kernel_rfl) (by kernel_rfl) (by kernel_rfl) ?hq26z2 (Or.inl ⟨?hw26z2, ?hy26z2⟩) (by assumption) ?hr26z2
        case hi26z2 => (simp only [List.getElem?_toArray, List.getElem?_cons_zero, List.getElem?_cons_succ]; exact rfl)
        case hq26z2 => exact fun _ _ _ h => h
        case hw26z2 => rfl
        case hy26z2 =>
          intro wz hz
          (try dsimp only at hz)
          go_simp
          all_goals with_reducible rfl
        try simp only [Act.put, List.setIfInBounds_toArray, List.set_cons_zero, List.set_cons_succ]
        refine' wpAnyH_take (i := 27) (v := ?v27z2) ?hi27z2 (by kernel_rfl) (by kernel_rfl) (by kernel_rfl) ?hq27z2 (Or.inl ⟨?hw27z2, ?hy27z2⟩) (by assumption) ?hr27z2
        case hi27z2 => (simp only [List.getElem?_toArray, List.getElem?_cons_zero, List.getElem?_cons_succ]; exact rfl)
        case hq27z2 => exact fun _ _ _ h => h
        case hw27z2 => rfl
        case hy27z2 =>
          intro wz hz
          (try dsimp only at hz)
          go_simp
          all_goals with_reducible rfl
        try simp only [Act.put, List.setIfInBounds_toArray, List.set_cons_zero, List.set_cons_succ]
        refine' wpAnyH_take (i := 28) (v := ?v28z2) ?hi28z2 (by kernel_rfl) (by kernel_rfl) (by kernel_rfl) ?hq28z2 (Or.inl ⟨?hw28z2, ?hy28z2⟩) (by assumption) ?hr28z2
        case hi28z2 => (simp only [List.getElem?_toArray, List.getElem?_cons_zero, List.getElem?_cons_succ]; exact rfl)
        case hq28z2 => exact fun _ _ _ h => h
        case hw28z2 => rfl
        case hy28z2 =>
          intro wz hz
          (try dsimp only at hz)
          go_simp
          all_goals with_reducible rfl
        try simp only [Act.put, List.setIfInBounds_toArray, List.set_cons_zero, List.set_cons_succ]
        refine' wpAnyH_take (i := 29) (v := ?v29z2) ?hi29z2 (by kernel_rfl) (by kernel_rfl) (by kernel_rfl) ?hq29z2 (Or.inl ⟨?hw29z2, ?hy29z2⟩) (by assumption) ?hr29z2
        case hi29z2 => (simp only [List.getElem?_toArray, List.getElem?_cons_zero, List.getElem?_cons_succ]; exact rfl)
        case hq29z2 => exact fun _ _ _ h => h
        case hw29z2 => rfl
        case hy29z2 =>
          intro wz hz
          (try dsimp only at hz)
          go_simp
          all_goals with_reducible rfl
        try simp only [Act.put, List.setIfInBounds_toArray, List.set_cons_zero, List.set_cons_succ]
        refine' wpAnyH_take (i := 30) (v := ?v30z2) ?hi30z2 (by kernel_rfl) (by kernel_rfl) (by kernel_rfl) ?hq30z2 (Or.inl ⟨?hw30z2, ?hy30z2⟩) (by assumption) ?hr30z2
        case hi30z2 => (simp only [List.getElem?_toArray, List.getElem?_cons_zero, List.getElem?_cons_succ]; exact rfl)
        case hq30z2 => exact fun _ _ _ h => h
        case hw30z2 => rfl
        case hy30z2 =>
          intro wz hz
          (try dsimp only at hz)
          go_simp
          all_goals with_reducible rfl
        try simp only [Act.put, List.setIfInBounds_toArray, List.set_cons_zero, List.set_cons_succ]
        refine' wpAnyH_take (i := 31) (v := ?v31z2) ?hi31z2 (by kernel_rfl) (by kernel_rfl) (by kernel_rfl) ?hq31z2 (Or.inl ⟨?hw31z2, ?hy31z2⟩) (by assumption) ?hr31z2
        case hi31z2 => (simp only [List.getElem?_toArray, List.getElem?_cons_zero, List.getElem?_cons_succ]; exact rfl)
        case hq31z2 => exact fun _ _ _ h => h
        case hw31z2 => rfl
        case hy31z2 =>
          intro wz hz
          (try dsimp only at hz)
          go_simp
          all_goals with_reducible rfl
        try simp only [Act.put, List.setIfInBounds_toArray, List.set_cons_zero, List.set_cons_succ]
        refine' wpAnyH_take (i := 32) (v := ?v32z2) ?hi32z2 (by kernel_rfl) (by kernel_rfl) (by kernel_rfl) ?hq32z2 (Or.inl ⟨?hw32z2, ?hy32z2⟩) (by assumption) ?hr32z2
        case hi32z2 => (simp only [List.getElem?_toArray, List.getElem?_cons_zero, List.getElem?_cons_succ]; exact rfl)
        case hq32z2 => exact fun _ _ _ h => h
        case hw32z2 => rfl
        case hy32z2 =>
          intro wz hz
          (try dsimp only at hz)
          go_simp
          all_goals with_reducible rfl
        try simp only [Act.put, List.setIfInBounds_toArray, List.set_cons_zero, List.set_cons_succ]
        refine' wpAnyH_take (i := 33) (v := ?v33z2) ?hi33z2 (by kernel_rfl) (by kernel_rfl) (by kernel_rfl) ?hq33z2 (Or.inl ⟨?hw33z2, ?hy33z2⟩) (by assumption) ?hr33z2
        case hi33z2 => (simp only [List.getElem?_toArray, List.getElem?_cons_zero, List.getElem?_cons_succ]; exact rfl)
        case hq33z2 => exact fun _ _ _ h => h
        case hw33z2 => rfl
        case hy33z2 =>
          intro wz hz
          (try dsimp only at hz)
          go_simp
          all_goals with_reducible rfl
        try simp only [Act.put, List.setIfInBounds_toArray, List.set_cons_zero, List.set_cons_succ]
        refine' wpAnyH_take (i := 34) (v := ?v34z2) ?hi34z2 (by kernel_rfl) (by kernel_rfl) (by kernel_rfl) ?hq34z2 (Or.inl ⟨?hw34z2, ?hy34z2⟩) (by assumption) ?hr34z2
        case hi34z2 => (simp only [List.getElem?_toArray, List.getElem?_cons_zero, List.getElem?_cons_succ]; exact rfl)
        case hq34z2 => exact fun _ _ _ h => h
        case hw34z2 => rfl
        case hy34z2 =>
          intro wz hz
          (try dsimp only at hz)
          go_simp
          all_goals with_reducible rfl
        try simp only [Act.put, List.setIfInBounds_toArray, List.set_cons_zero, List.set_cons_succ]
        refine' wpAnyH_take (i := 35) (v := ?v35z2) ?hi35z2 (by kernel_rfl) (by kernel_rfl) (by kernel_rfl) ?hq35z2 (Or.inl ⟨?hw35z2, ?hy35z2⟩) (by assumption) ?hr35z2
        case hi35z2 => (simp only [List.getElem?_toArray, List.getElem?_cons_zero, List.getElem?_cons_succ]; exact rfl)
        case hq35z2 => exact fun _ _ _ h => h
        case hw35z2 => rfl
        case hy35z2 =>
          intro wz hz
          (try dsimp only at hz)
          go_simp
          all_goals with_reducible rfl
        try simp only [Act.put, List.setIfInBounds_toArray, List.set_cons_zero, List.set_cons_succ]
        refine' wpAnyH_take (i := 36) (v := ?v36z2) ?hi36z2 (by kernel_rfl) (by kernel_rfl) (by kernel_rfl) ?hq36z2 (Or.inl ⟨?hw36z2, ?hy36z2⟩) (by assumption) ?hr36z2
        case hi36z2 => (simp only [List.getElem?_toArray, List.getElem?_cons_zero, List.getElem?_cons_succ]; exact rfl)
        case hq36z2 => exact fun _ _ _ h => h
        case hw36z2 => rfl
        case hy36z2 =>
          intro wz hz
          (try dsimp only at hz)
          go_simp
          all_goals with_reducible rfl
        try simp only [Act.put, List.setIfInBounds_toArray, List.set_cons_zero, List.set_cons_succ]
        refine' wpAnyH_take (i := 37) (v := ?v37z2) ?hi37z2 (by kernel_rfl) (by kernel_rfl) (by kernel_rfl) ?hq37z2 (Or.inl ⟨?hw37z2, ?hy37z2⟩) (by assumption) ?hr37z2
        case hi37z2 => (simp only [List.getElem?_toArray, List.getElem?_cons_zero, List.getElem?_cons_succ]; exact rfl)
        case hq37z2 => exact fun _ _ _ h => h
        case hw37z2 => rfl
        case hy37z2 =>
          intro wz hz
          (try dsimp only at hz)
          go_simp
          all_goals with_reducible rfl
        try simp only [Act.put, List.setIfInBounds_toArray, List.set_cons_zero, List.set_cons_succ]
        refine wpAnyH_done (by kernel_rfl) ?_ _
        have hS2 := Lib.hid (hcl.out _ (Below.refl wr.heap.size wr).drew).2
        have hS3 := Lib.hid (hcl.out _ ((Below.refl wr.heap.size wr).drew).drew).2
        have hS6 := Lib.hid (hcl.out _ (((Below.refl wr.heap.size wr).alloc (Nat.le_refl _) (.cells #[.int .i64 0, .int .i64 0, .int .i64 0] 23)).drew).drew).2
        have hS7 := Lib.hid (hcl.out _ ((Below.refl wr.heap.size wr).alloc (Nat.le_refl _) (.cells #[.int .i64 0, .int .i64 0, .int .i64 0] 23)).drew).2
        have hf2 : Hid (∀ W, (W.cell? ⟨w4.heap.size, 0, none⟩ = some (.int .i64 b) ∧ W.cell? ⟨w4.heap.size, 1, none⟩ = some (.int .i64 2) ∧ W.cell? ⟨w4.heap.size, 2, none⟩ = some (.int .i64 (b + o)) ∧ W.cell? ⟨g1, 2, none⟩ = some (.int .i64 (b + o)) ∧ Below wr.heap.size wr W) → Calls Try.prog 8 #[turnV b 2 (b + o), .int .i64 (b + o)] W fun e w' => e = .returned (.tuple #[turnV b 3 (b + offT 3), .bool false, .int .i64 0]) ∧ (w'.cell? ⟨w4.heap.size, 0, none⟩ = some (.int .i64 b) ∧ w'.cell? ⟨w4.heap.size, 1, none⟩ = some (.int .i64 2) ∧ w'.cell? ⟨w4.heap.size, 2, none⟩ = some (.int .i64 (b + o)) ∧ w'.cell? ⟨g1, 2, none⟩ = some (.int .i64 (b + o)) ∧ Below wr.heap.size wr w') ∧ Below W.heap.size W w') := Lib.hid fun W hW => by
          refine (hf.out W).mono fun e w' ⟨h1, h2⟩ => ⟨h1, (hcl.out _ ?_).2, h2⟩
          exact hW.2.2.2.2.trans (h2.mono hW.2.2.2.2.size)
        have hal : Hid (∀ W ob, (W.cell? ⟨w4.heap.size, 0, none⟩ = some (.int .i64 b) ∧ W.cell? ⟨w4.heap.size, 1, none⟩ = some (.int .i64 2) ∧ W.cell? ⟨w4.heap.size, 2, none⟩ = some (.int .i64 (b + o)) ∧ W.cell? ⟨g1, 2, none⟩ = some (.int .i64 (b + o)) ∧ Below wr.heap.size wr W) → ((W.alloc ob).cell? ⟨w4.heap.size, 0, none⟩ = some (.int .i64 b) ∧ (W.alloc ob).cell? ⟨w4.heap.size, 1, none⟩ = some (.int .i64 2) ∧ (W.alloc ob).cell? ⟨w4.heap.size, 2, none⟩ = some (.int .i64 (b + o)) ∧ (W.alloc ob).cell? ⟨g1, 2, none⟩ = some (.int .i64 (b + o)) ∧ Below wr.heap.size wr (W.alloc ob))) := Lib.hid fun W ob hW => (hcl.out _ (hW.2.2.2.2.alloc hW.2.2.2.2.size ob)).2
        have hst : Hid (∀ W (nb : Nat) (y0 y1 y2 : Int), wr.heap.size ≤ nb → (W.cell? ⟨w4.heap.size, 0, none⟩ = some (.int .i64 b) ∧ W.cell? ⟨w4.heap.size, 1, none⟩ = some (.int .i64 2) ∧ W.cell? ⟨w4.heap.size, 2, none⟩ = some (.int .i64 (b + o)) ∧ W.cell? ⟨g1, 2, none⟩ = some (.int .i64 (b + o)) ∧ Below wr.heap.size wr W) → ((putT3 W nb y0 y1 y2).cell? ⟨w4.heap.size, 0, none⟩ = some (.int .i64 b) ∧ (putT3 W nb y0 y1 y2).cell? ⟨w4.heap.size, 1, none⟩ = some (.int .i64 2) ∧ (putT3 W nb y0 y1 y2).cell? ⟨w4.heap.size, 2, none⟩ = some (.int .i64 (b + o)) ∧ (putT3 W nb y0 y1 y2).cell? ⟨g1, 2, none⟩ = some (.int .i64 (b + o)) ∧ Below wr.heap.size wr (putT3 W nb y0 y1 y2))) := Lib.hid fun W nb y0 y1 y2 hnb hW => (hcl.out _ (putT3_below hW.2.2.2.2 hnb y0 y1 y2)).2
        unfold putT3 at hst
        clear hS0 hS1 hf hcl
        go_wp2_with fail
        refine wp_region_held_drew (S := (fun W => W.cell? ⟨w4.heap.size, 0, none⟩ = some (.int .i64 b) ∧ W.cell? ⟨w4.heap.size, 1, none⟩ = some (.int .i64 2) ∧ W.cell? ⟨w4.heap.size, 2, none⟩ = some (.int .i64 (b + o)) ∧ W.cell? ⟨g1, 2, none⟩ = some (.int .i64 (b + o)) ∧ Below wr.heap.size wr W)) (by kernel_rfl) (by first | assumption | exact hS2.out | exact hS3.out) (fun hHeld => ?_)
        refine' wpAnyH_take (i := 0) (v := ?v0y2) ?hi0y2 (by kernel_rfl) (by kernel_rfl) (by kernel_rfl) ?hq0y2 (Or.inl ⟨?hw0y2, ?hy0y2⟩) (by assumption) ?hr0y2
        case hi0y2 => (simp only [List.getElem?_toArray, List.getElem?_cons_zero]; exact rfl)
        case hq0y2 => exact fun _ _ _ h => h
        case hw0y2 => rfl
        case hy0y2 =>
          intro wz hz
          (try dsimp only at hz)
          go_simp
          all_goals with_reducible rfl
        try simp only [Act.put, List.setIfInBounds_toArray, List.set_cons_zero, List.set_cons_succ]
        refine' wpAnyH_take (i := 1) (v := ?v1y2) ?hi1y2 (by kernel_rfl) (by kernel_rfl) (by kernel_rfl) ?hq1y2 (Or.inl ⟨?hw1y2, ?hy1y2⟩) (by assumption) ?hr1y2
        case hi1y2 => (simp only [List.getElem?_toArray, List.getElem?_cons_zero, List.getElem?_cons_succ]; exact rfl)
        case hq1y2 => exact fun _ _ _ h => h
        case hw1y2 => rfl
        case hy1y2 =>
          intro wz hz
          (try dsimp only at hz)
          go_simp
          all_goals with_reducible rfl
        try simp only [Act.put, List.setIfInBounds_toArray, List.set_cons_zero, List.set_cons_succ]
        refine' wpAnyH_take (i := 2) (v := ?v2y2) ?hi2y2 (by kernel_rfl) (by kernel_rfl) (by kernel_rfl) ?hq2y2 (Or.inl ⟨?hw2y2, ?hy2y2⟩) (by assumption) ?hr2y2
        case hi2y2 => (simp only [List.getElem?_toArray, List.getElem?_cons_zero, List.getElem?_cons_succ]; exact rfl)
        case hq2y2 => exact fun _ _ _ h => h
        case hw2y2 => rfl
        case hy2y2 =>
          intro wz hz
          (try dsimp only at hz)
          go_simp
          all_goals with_reducible rfl
        try simp only [Act.put, List.setIfInBounds_toArray, List.set_cons_zero, List.set_cons_succ]
        refine' wpAnyH_take (i := 3) (v := ?v3y2) ?hi3y2 (by kernel_rfl) (by kernel_rfl) (by kernel_rfl) ?hq3y2 (Or.inl ⟨?hw3y2, ?hy3y2⟩) (by assumption) ?hr3y2
        case hi3y2 => (simp only [List.getElem?_toArray, List.getElem?_cons_zero, List.getElem?_cons_succ]; exact rfl)
        case hq3y2 => exact fun _ _ _ h => h
        case hw3y2 => rfl
        case hy3y2 =>
          intro wz hz
          (try dsimp only at hz)
          go_simp
          all_goals with_reducible rfl
        try simp only [Act.put, List.setIfInBounds_toArray, List.set_cons_zero, List.set_cons_succ]
        refine' wpAnyH_take (i := 4) (v := ?v4y2) ?hi4y2 (by kernel_rfl) (by kernel_rfl) (by kernel_rfl) ?hq4y2 (Or.inl ⟨?hw4y2, ?hy4y2⟩) (by assumption) ?hr4y2
        case hi4y2 => (simp only [List.getElem?_toArray, List.getElem?_cons_zero, List.getElem?_cons_succ]; exact rfl)
        case hq4y2 => exact fun _ _ _ h => h
        case hw4y2 => rfl
        case hy4y2 =>
          intro wz hz
          (try dsimp only at hz)
          go_simp
          all_goals with_reducible rfl
        try simp only [Act.put, List.setIfInBounds_toArray, List.set_cons_zero, List.set_cons_succ]
        refine wpAnyH_ready (rs := [5, 10]) (by kernel_rfl) (by simp) ?_
        refine AllReadyH.cons (o := ?hoA2) ?hioA2 (fun KA hKA => ?hsA2) ?hmA2
        case hioA2 => (simp only [List.getElem?_toArray, List.getElem?_cons_zero, List.getElem?_cons_succ]; exact rfl)
        case hsA2 =>
          go_simp
          go_at_call 8
          with_reducible refine (hf2.out _ ?_).mono ?_
          · assumption
          rintro e w5 ⟨rfl, hS5, hb5⟩
          refine hKA.out _ _ hS5 (fun hHeld5 => ?_)
          try simp only [Act.put, List.setIfInBounds_toArray, List.set_cons_zero, List.set_cons_succ]
          refine' wpAnyH_take (i := 6) (v := ?v6yA2) ?hi6yA2 (by kernel_rfl) (by kernel_rfl) (by kernel_rfl) ?hq6yA2 (Or.inl ⟨?hw6yA2, ?hy6yA2⟩) (by assumption) ?hr6yA2
          case hi6yA2 => (simp only [List.getElem?_toArray, List.getElem?_cons_zero, List.getElem?_cons_succ]; exact rfl)
          case hq6yA2 => exact fun _ _ _ h => h
          case hw6yA2 => rfl
          case hy6yA2 =>
            intro wz hz
            (try dsimp only at hz)
            go_simp
            all_goals with_reducible rfl
          try simp only [Act.put, List.setIfInBounds_toArray, List.set_cons_zero, List.set_cons_succ]
          refine' wpAnyH_take (i := 7) (v := ?v7yA2) ?hi7yA2 (by kernel_rfl) (by kernel_rfl) (by kernel_rfl) ?hq7yA2 (Or.inl ⟨?hw7yA2, ?hy7yA2⟩) (by assumption) ?hr7yA2
          case hi7yA2 => (simp only [List.getElem?_toArray, List.getElem?_cons_zero, List.getElem?_cons_succ]; exact rfl)
          case hq7yA2 => exact fun _ _ _ h => h
          case hw7yA2 => rfl
          case hy7yA2 =>
            intro wz hz
            (try dsimp only at hz)
            go_simp
            all_goals with_reducible rfl
          try simp only [Act.put, List.setIfInBounds_toArray, List.set_cons_zero, List.set_cons_succ]
          refine' wpAnyH_take (i := 8) (v := ?v8yA2) ?hi8yA2 (by kernel_rfl) (by kernel_rfl) (by kernel_rfl) ?hq8yA2 (Or.inl ⟨?hw8yA2, ?hy8yA2⟩) (by assumption) ?hr8yA2
          case hi8yA2 => (simp only [List.getElem?_toArray, List.getElem?_cons_zero, List.getElem?_cons_succ]; exact rfl)
          case hq8yA2 => exact fun _ _ _ h => h
          case hw8yA2 => rfl
          case hy8yA2 =>
            intro wz hz
            (try dsimp only at hz)
            go_simp
            all_goals with_reducible rfl
          try simp only [Act.put, List.setIfInBounds_toArray, List.set_cons_zero, List.set_cons_succ]
          refine' wpAnyH_take (i := 9) (v := ?v9yA2) ?hi9yA2 (by kernel_rfl) (by kernel_rfl) (by kernel_rfl) ?hq9yA2 (Or.inl ⟨?hw9yA2, ?hy9yA2⟩) (by assumption) ?hr9yA2
          case hi9yA2 => (simp only [List.getElem?_toArray, List.getElem?_cons_zero, List.getElem?_cons_succ]; exact rfl)
          case hq9yA2 => exact fun _ _ _ h => h
          case hw9yA2 => rfl
          case hy9yA2 =>
            intro wz hz
            (try dsimp only at hz)
            go_simp
            all_goals with_reducible rfl
          try simp only [Act.put, List.setIfInBounds_toArray, List.set_cons_zero, List.set_cons_succ]
          refine wpAnyH_ready (rs := [10]) (by kernel_rfl) (by simp) ?_
          refine AllReadyH.cons (o := ?hoB2) ?hioB2 (fun KB hKB => ?hsB2) AllReadyH.nil
          case hioB2 => (simp only [List.getElem?_toArray, List.getElem?_cons_zero, List.getElem?_cons_succ]; exact rfl)
          case hsB2 =>
            go_simp
            refine hKB.out _ _ (hal.out _ _ hS5) (fun hHeldB => ?_)
            try simp only [Act.put, List.setIfInBounds_toArray, List.set_cons_zero, List.set_cons_succ]
            refine wpAnyH_ready (rs := [11]) (by kernel_rfl) (by simp) ?_
            refine AllReadyH.cons (o := ?hoC2) ?hioC2 (fun KC hKC => ?hsC2) AllReadyH.nil
            case hioC2 => (simp only [List.getElem?_toArray, List.getElem?_cons_zero, List.getElem?_cons_succ]; exact rfl)
            case hsC2 =>
              go_simp
              refine hKC.out _ _ (hal.out _ _ hS5) (fun hHeldC => ?_)
              try simp only [Act.put, List.setIfInBounds_toArray, List.set_cons_zero, List.set_cons_succ]
              refine' wpAnyH_take (i := 12) (v := ?v12yC2) ?hi12yC2 (by kernel_rfl) (by kernel_rfl) (by kernel_rfl) ?hq12yC2 (Or.inl ⟨?hw12yC2, ?hy12yC2⟩) (by assumption) ?hr12yC2
              case hi12yC2 => (simp only [List.getElem?_toArray, List.getElem?_cons_zero, List.getElem?_cons_succ]; exact rfl)
              case hq12yC2 => exact fun _ _ _ h => h
              case hw12yC2 => rfl
              case hy12yC2 =>
                intro wz hz
                (try dsimp only at hz)
                go_simp
                all_goals with_reducible rfl
              try simp only [Act.put, List.setIfInBounds_toArray, List.set_cons_zero, List.set_cons_succ]
              refine' wpAnyH_take (i := 13) (v := ?v13yC2) ?hi13yC2 (by kernel_rfl) (by kernel_rfl) (by kernel_rfl) ?hq13yC2 (Or.inl ⟨?hw13yC2, ?hy13yC2⟩) (by assumption) ?hr13yC2
              case hi13yC2 => (simp only [List.getElem?_toArray, List.getElem?_cons_zero, List.getElem?_cons_succ]; exact rfl)
              case hq13yC2 => exact fun _ _ _ h => h
              case hw13yC2 => rfl
              case hy13yC2 =>
                intro wz hz
                (try dsimp only at hz)
                go_simp
                all_goals with_reducible rfl
              try simp only [Act.put, List.setIfInBounds_toArray, List.set_cons_zero, List.set_cons_succ]
              refine wpAnyH_done (by kernel_rfl) ?_ _
              have hbW := hS5.2.2.2.2.alloc hS5.2.2.2.2.size (.cells #[.int .i64 b, .int .i64 3, .int .i64 (b + offT 3)] 23)
              have t6 := HT.out.below hbW
              have u6 := turn_new w5 b 3 (b + offT 3)
              have hne : w5.heap.size ≠ w4.heap.size := by have := HT.out.lt; have := hS5.2.2.2.2.size; omega
              obtain ⟨p0, p1, p2, r0, r1, r2⟩ := t6.cells
              obtain ⟨u0, u1, u2, _⟩ := u6.cells
              have Fin := Lib.hid (plans_next hk2.out.1 hk2.out.2.1 HT.out hk2.out.2.2.2.1 hk2.out.2.2.2.2 hbW b 3 (b + offT 3))
              unfold putT3 at Fin
              (try unfold putT3 at u0 u1 u2)
              (try unfold putT3 at p0 p1 p2 r0 r1 r2)
              go_wp2
              go_roundw
              case rel => exact ⟨3, by omega, by go_num, Lib.hid ⟨Fin.out.1, Fin.out.2.1, ⟨_, _, _, Fin.out.2.2.1, fun h => ⟨rfl, rfl, rfl⟩⟩, Fin.out.2.2.2, hk2.out.2.2.2.2⟩⟩
              case measure => simp [intOf]
        case hmA2 =>
          refine AllReadyH.cons (o := ?hoD2) ?hioD2 (fun KD hKD => ?hsD2) AllReadyH.nil
          case hioD2 => (simp only [List.getElem?_toArray, List.getElem?_cons_zero, List.getElem?_cons_succ]; exact rfl)
          case hsD2 =>
            go_simp
            refine hKD.out _ _ (by first | exact hS6.out | exact hS7.out | exact hal.out _ _ (by assumption)) (fun hHeldD => ?_)
            try simp only [Act.put, List.setIfInBounds_toArray, List.set_cons_zero, List.set_cons_succ]
            refine wpAnyH_ready (rs := [5]) (by kernel_rfl) (by simp) ?_
            refine AllReadyH.cons (o := ?hoE2) ?hioE2 (fun KE hKE => ?hsE2) AllReadyH.nil
            case hioE2 => (simp only [List.getElem?_toArray, List.getElem?_cons_zero, List.getElem?_cons_succ]; exact rfl)
            case hsE2 =>
              go_simp
              go_at_call 8
              with_reducible refine (hf2.out _ ?_).mono ?_
              · assumption
              rintro e w5 ⟨rfl, hS5, hb5⟩
              have nb5 : TurnAt w5 wr.heap.size 0 0 0 := (hb5.block wr.heap.size (by simp)).trans (by first | exact turn_new wr 0 0 0 | exact turn_new wr.drew 0 0 0)
              obtain ⟨ka0, ka1, ka2, qa0, qa1, qa2⟩ := nb5.cells
              have hnb := Lib.hid nb5
              clear nb5
              refine hKE.out _ _ hS5 (fun hHeldE => ?_)
              try simp only [Act.put, List.setIfInBounds_toArray, List.set_cons_zero, List.set_cons_succ]
              refine' wpAnyH_take (i := 6) (v := ?v6yE2) ?hi6yE2 (by kernel_rfl) (by kernel_rfl) (by kernel_rfl) ?hq6yE2 (Or.inl ⟨?hw6yE2, ?hy6yE2⟩) (by assumption) ?hr6yE2
              case hi6yE2 => (simp only [List.getElem?_toArray, List.getElem?_cons_zero, List.getElem?_cons_succ]; exact rfl)
              case hq6yE2 => exact fun _ _ _ h => h
              case hw6yE2 => rfl
              case hy6yE2 =>
                intro wz hz
                (try dsimp only at hz)
                go_simp
                all_goals with_reducible rfl
              try simp only [Act.put, List.setIfInBounds_toArray, List.set_cons_zero, List.set_cons_succ]
              refine' wpAnyH_take (i := 7) (v := ?v7yE2) ?hi7yE2 (by kernel_rfl) (by kernel_rfl) (by kernel_rfl) ?hq7yE2 (Or.inl ⟨?hw7yE2, ?hy7yE2⟩) (by assumption) ?hr7yE2
              case hi7yE2 => (simp only [List.getElem?_toArray, List.getElem?_cons_zero, List.getElem?_cons_succ]; exact rfl)
              case hq7yE2 => exact fun _ _ _ h => h
              case hw7yE2 => rfl
              case hy7yE2 =>
                intro wz hz
                (try dsimp only at hz)
                go_simp
                all_goals with_reducible rfl
              try simp only [Act.put, List.setIfInBounds_toArray, List.set_cons_zero, List.set_cons_succ]
              refine' wpAnyH_take (i := 8) (v := ?v8yE2) ?hi8yE2 (by kernel_rfl) (by kernel_rfl) (by kernel_rfl) ?hq8yE2 (Or.inl ⟨?hw8yE2, ?hy8yE2⟩) (by assumption) ?hr8yE2
              case hi8yE2 => (simp only [List.getElem?_toArray, List.getElem?_cons_zero, List.getElem?_cons_succ]; exact rfl)
              case hq8yE2 => exact fun _ _ _ h => h
              case hw8yE2 => rfl
              case hy8yE2 =>
                intro wz hz
                (try dsimp only at hz)
                go_simp
                all_goals with_reducible rfl
              try simp only [Act.put, List.setIfInBounds_toArray, List.set_cons_zero, List.set_cons_succ]
              refine' wpAnyH_take (i := 9) (v := ?v9yE2) ?hi9yE2 (by kernel_rfl) (by kernel_rfl) (by kernel_rfl) ?hq9yE2 (Or.inl ⟨?hw9yE2, ?hy9yE2⟩) (by assumption) ?hr9yE2
              case hi9yE2 => (simp only [List.getElem?_toArray, List.getElem?_cons_zero, List.getElem?_cons_succ]; exact rfl)
              case hq9yE2 => exact fun _ _ _ h => h
              case hw9yE2 => rfl
              case hy9yE2 =>
                intro wz hz
                (try dsimp only at hz)
                go_simp
                all_goals with_reducible rfl
              try simp only [Act.put, List.setIfInBounds_toArray, List.set_cons_zero, List.set_cons_succ]
              refine wpAnyH_ready (rs := [11]) (by kernel_rfl) (by simp) ?_
              refine AllReadyH.cons (o := ?hoF2) ?hioF2 (fun KF hKF => ?hsF2) AllReadyH.nil
              case hioF2 => (simp only [List.getElem?_toArray, List.getElem?_cons_zero, List.getElem?_cons_succ]; exact rfl)
              case hsF2 =>
                go_simp
                refine hKF.out _ _ (hst.out _ _ _ _ _ (Nat.le_refl _) hS5) (fun hHeldF => ?_)
                try simp only [Act.put, List.setIfInBounds_toArray, List.set_cons_zero, List.set_cons_succ]
                refine' wpAnyH_take (i := 12) (v := ?v12yF2) ?hi12yF2 (by kernel_rfl) (by kernel_rfl) (by kernel_rfl) ?hq12yF2 (Or.inl ⟨?hw12yF2, ?hy12yF2⟩) (by assumption) ?hr12yF2
                case hi12yF2 => (simp only [List.getElem?_toArray, List.getElem?_cons_zero, List.getElem?_cons_succ]; exact rfl)
                case hq12yF2 => exact fun _ _ _ h => h
                case hw12yF2 => rfl
                case hy12yF2 =>
                  intro wz hz
                  (try dsimp only at hz)
                  go_simp
                  all_goals with_reducible rfl
                try simp only [Act.put, List.setIfInBounds_toArray, List.set_cons_zero, List.set_cons_succ]
                refine' wpAnyH_take (i := 13) (v := ?v13yF2) ?hi13yF2 (by kernel_rfl) (by kernel_rfl) (by kernel_rfl) ?hq13yF2 (Or.inl ⟨?hw13yF2, ?hy13yF2⟩) (by assumption) ?hr13yF2
                case hi13yF2 => (simp only [List.getElem?_toArray, List.getElem?_cons_zero, List.getElem?_cons_succ]; exact rfl)
                case hq13yF2 => exact fun _ _ _ h => h
                case hw13yF2 => rfl
                case hy13yF2 =>
                  intro wz hz
                  (try dsimp only at hz)
                  go_simp
                  all_goals with_reducible rfl
                try simp only [Act.put, List.setIfInBounds_toArray, List.set_cons_zero, List.set_cons_succ]
                refine wpAnyH_done (by kernel_rfl) ?_ _
                have hbW := putT3_below hS5.2.2.2.2 (Nat.le_refl wr.heap.size) b 3 (b + offT 3)
                have t6 := HT.out.below hbW
                have u6 := hnb.out.put b 3 (b + offT 3)
                have hne : wr.heap.size ≠ w4.heap.size := by have := HT.out.lt; omega
                obtain ⟨p0, p1, p2, r0, r1, r2⟩ := t6.cells
                obtain ⟨u0, u1, u2, _⟩ := u6.cells
                have Fin := Lib.hid (plans_next hk2.out.1 hk2.out.2.1 HT.out hk2.out.2.2.2.1 hk2.out.2.2.2.2 hbW b 3 (b + offT 3))
                unfold putT3 at Fin
                (try unfold putT3 at u0 u1 u2)
                (try unfold putT3 at p0 p1 p2 r0 r1 r2)
                go_wp2
                go_roundw
                case rel => exact ⟨3, by omega, by go_num, Lib.hid ⟨Fin.out.1, Fin.out.2.1, ⟨_, _, _, Fin.out.2.2.1, fun h => ⟨rfl, rfl, rfl⟩⟩, Fin.out.2.2.2, hk2.out.2.2.2.2⟩⟩
                case measure => simp [intOf]
      | 3, _ =>
        have ex := hfx (by omega)
        rw [ex.1, show x1 = 4 from ex.2.1, ex.2.2] at hf
        clear ex hfx
        obtain ⟨zp, hop⟩ := hprev.out 2 rfl
        obtain ⟨o', ho'⟩ : ∃ o', offT 2 = o' := ⟨_, rfl⟩
        rw [ho'] at zp hop
        have s2 : decide (b + o ≤ b + o') = false := decide_eq_false (by omega)
        have s3 : (b + o != b + o) = false := by simp
        have s4 : IntKind.i64.wrap (2 : Int) = 2 := by decide
        have HT := Lib.hid htn2
        clear htn2
        have hcl : Hid (∀ W, Below wr.heap.size wr W → (W.cell? ⟨g1, 3, none⟩ = some (.int .i64 (b + o)) ∧ W.cell? ⟨g2, 3, none⟩ = some (.int .i64 (later + o)) ∧ W.cell? ⟨w4.heap.size, 2, none⟩ = some (.int .i64 (b + o)) ∧ W.cell? ⟨g1, 2, none⟩ = some (.int .i64 (b + o')) ∧ Below wr.heap.size wr W) ∧ (W.cell? ⟨w4.heap.size, 0, none⟩ = some (.int .i64 b) ∧ W.cell? ⟨w4.heap.size, 1, none⟩ = some (.int .i64 3) ∧ W.cell? ⟨w4.heap.size, 2, none⟩ = some (.int .i64 (b + o)) ∧ W.cell? ⟨g1, 3, none⟩ = some (.int .i64 (b + o)) ∧ Below wr.heap.size wr W)) := Lib.hid fun W hW => by
          have hc : ∀ g o v, wr.cell? ⟨g, o, none⟩ = some v → W.cell? ⟨g, o, none⟩ = some v := fun g o v h => (hW.cell (p := ⟨g, o, none⟩) (cell_lt15 h)).trans h
          exact ⟨⟨hc _ _ _ z1, hc _ _ _ z2, hc _ _ _ c2, hc _ _ _ zp, hW⟩, hc _ _ _ c0, hc _ _ _ c1, hc _ _ _ c2, hc _ _ _ z1, hW⟩
        have hS0 := Lib.hid (hcl.out _ (Below.refl wr.heap.size wr)).1
        have hS1 := Lib.hid (hcl.out _ (Below.refl wr.heap.size wr).drew).1
        clear z1 z2 c0 c1 c2 zp hprev
        go_wp2_with fail
        refine wp_region_held_drew (S := (fun W => W.cell? ⟨g1, 3, none⟩ = some (.int .i64 (b + o)) ∧ W.cell? ⟨g2, 3, none⟩ = some (.int .i64 (later + o)) ∧ W.cell? ⟨w4.heap.size, 2, none⟩ = some (.int .i64 (b + o)) ∧ W.cell? ⟨g1, 2, none⟩ = some (.int .i64 (b + o')) ∧ Below wr.heap.size wr W)) (by kernel_rfl) (by first | assumption | exact hS0.out | exact hS1.out) (fun hHeld => ?_)
        refine' wpAnyH_take (i := 0) (v := ?v0z3) ?hi0z3 (by kernel_rfl) (by kernel_rfl) (by kernel_rfl) ?hq0z3 (Or.inl ⟨?hw0z3, ?hy0z3⟩) (by assumption) ?hr0z3
        case hi0z3 => (simp only [List.getElem?_toArray, List.getElem?_cons_zero]; exact rfl)
        case hq0z3 => exact fun _ _ _ h => h
        case hw0z3 => rfl
        case hy0z3 =>
          intro wz hz
          (try dsimp only at hz)
          go_simp
          all_goals with_reducible rfl
        try simp only [Act.put, List.setIfInBounds_toArray, List.set_cons_zero, List.set_cons_succ]
        refine' wpAnyH_take (i := 1) (v := ?v1z3) ?hi1z3 (by kernel_rfl) (by kernel_rfl) (by kernel_rfl) ?hq1z3 (Or.inl ⟨?hw1z3, ?hy1z3⟩) (by assumption) ?hr1z3
        case hi1z3 => (simp only [List.getElem?_toArray, List.getElem?_cons_zero, List.getElem?_cons_succ]; exact rfl)
        case hq1z3 => exact fun _ _ _ h => h
        case hw1z3 => rfl
        case hy1z3 =>
          intro wz hz
          (try dsimp only at hz)
          go_simp
          all_goals with_reducible rfl
        try simp only [Act.put, List.setIfInBounds_toArray, List.set_cons_zero, List.set_cons_succ]
        refine' wpAnyH_take (i := 2) (v := ?v2z3) ?hi2z3 (by kernel_rfl) (by kernel_rfl) (by kernel_rfl) ?hq2z3 (Or.inl ⟨?hw2z3, ?hy2z3⟩) (by assumption) ?hr2z3
        case hi2z3 => (simp only [List.getElem?_toArray, List.getElem?_cons_zero, List.getElem?_cons_succ]; exact rfl)
        case hq2z3 => exact fun _ _ _ h => h
        case hw2z3 => rfl
        case hy2z3 =>
          intro wz hz
          (try dsimp only at hz)
          go_simp
          all_goals with_reducible rfl
        try simp only [Act.put, List.setIfInBounds_toArray, List.set_cons_zero, List.set_cons_succ]
        refine' wpAnyH_take (i := 3) (v := ?v3z3) ?hi3z3 (by kernel_rfl) (by kernel_rfl) (by kernel_rfl) ?hq3z3 (Or.inl ⟨?hw3z3, ?hy3z3⟩) (by assumption) ?hr3z3
        case hi3z3 => (simp only [List.getElem?_toArray, List.getElem?_cons_zero, List.getElem?_cons_succ]; exact rfl)
        case hq3z3 => exact fun _ _ _ h => h
        case hw3z3 => rfl
        case hy3z3 =>
          intro wz hz
          (try dsimp only at hz)
          go_simp
          all_goals with_reducible rfl
        try simp only [Act.put, List.setIfInBounds_toArray, List.set_cons_zero, List.set_cons_succ]
        refine' wpAnyH_take (i := 4) (v := ?v4z3) ?hi4z3 (by kernel_rfl) (by kernel_rfl) (by kernel_rfl) ?hq4z3 (Or.inl ⟨?hw4z3, ?hy4z3⟩) (by assumption) ?hr4z3
        case hi4z3 => (simp only [List.getElem?_toArray, List.getElem?_cons_zero, List.getElem?_cons_succ]; exact rfl)
        case hq4z3 => exact fun _ _ _ h => h
        case hw4z3 => rfl
        case hy4z3 =>
          intro wz hz
          (try dsimp only at hz)
          go_simp
          all_goals with_reducible rfl
        try simp only [Act.put, List.setIfInBounds_toArray, List.set_cons_zero, List.set_cons_succ]
        refine' wpAnyH_take (i := 5) (v := ?v5z3) ?hi5z3 (by kernel_rfl) (by kernel_rfl) (by kernel_rfl) ?hq5z3 (Or.inl ⟨?hw5z3, ?hy5z3⟩) (by assumption) ?hr5z3
        case hi5z3 => (simp only [List.getElem?_toArray, List.getElem?_cons_zero, List.getElem?_cons_succ]; exact rfl)
        case hq5z3 => exact fun _ _ _ h => h
        case hw5z3 => rfl
        case hy5z3 =>
          intro wz hz
          (try dsimp only at hz)
          go_simp
          all_goals with_reducible rfl
        try simp only [Act.put, List.setIfInBounds_toArray, List.set_cons_zero, List.set_cons_succ]
        refine' wpAnyH_take (i := 6) (v := ?v6z3) ?hi6z3 (by kernel_rfl) (by kernel_rfl) (by kernel_rfl) ?hq6z3 (Or.inl ⟨?hw6z3, ?hy6z3⟩) (by assumption) ?hr6z3
        case hi6z3 => (simp only [List.getElem?_toArray, List.getElem?_cons_zero, List.getElem?_cons_succ]; exact rfl)
        case hq6z3 => exact fun _ _ _ h => h
        case hw6z3 => rfl
        case hy6z3 =>
          intro wz hz
          (try dsimp only at hz)
          go_simp
          all_goals with_reducible rfl
        try simp only [Act.put, List.setIfInBounds_toArray, List.set_cons_zero, List.set_cons_succ]
        refine' wpAnyH_take (i := 7) (v := ?v7z3) ?hi7z3 (by kernel_rfl) (by kernel_rfl) (by kernel_rfl) ?hq7z3 (Or.inl ⟨?hw7z3, ?hy7z3⟩) (by assumption) ?hr7z3
        case hi7z3 => (simp only [List.getElem?_toArray, List.getElem?_cons_zero, List.getElem?_cons_succ]; exact rfl)
        case hq7z3 => exact fun _ _ _ h => h
        case hw7z3 => rfl
        case hy7z3 =>
          intro wz hz
          (try dsimp only at hz)
          go_simp
          all_goals with_reducible rfl
        try simp only [Act.put, List.setIfInBounds_toArray, List.set_cons_zero, List.set_cons_succ]
        refine' wpAnyH_take (i := 8) (v := ?v8z3) ?hi8z3 (by kernel_rfl) (by kernel_rfl) (by kernel_rfl) ?hq8z3 (Or.inl ⟨?hw8z3, ?hy8z3⟩) (by assumption) ?hr8z3
        case hi8z3 => (simp only [List.getElem?_toArray, List.getElem?_cons_zero, List.getElem?_cons_succ]; exact rfl)
        case hq8z3 => exact fun _ _ _ h => h
        case hw8z3 => rfl
        case hy8z3 =>
          intro wz hz
          (try dsimp only at hz)
          go_simp
          all_goals with_reducible rfl
        try simp only [Act.put, List.setIfInBounds_toArray, List.set_cons_zero, List.set_cons_succ]
        refine' wpAnyH_take (i := 9) (v := ?v9z3) ?hi9z3 (by kernel_rfl) (by kernel_rfl) (by kernel_rfl) ?hq9z3 (Or.inl ⟨?hw9z3, ?hy9z3⟩) (by assumption) ?hr9z3
        case hi9z3 => (simp only [List.getElem?_toArray, List.getElem?_cons_zero, List.getElem?_cons_succ]; exact rfl)
        case hq9z3 => exact fun _ _ _ h => h
        case hw9z3 => rfl
        case hy9z3 =>
          intro wz hz
          (try dsimp only at hz)
          go_simp
          all_goals with_reducible rfl
        try simp only [Act.put, List.setIfInBounds_toArray, List.set_cons_zero, List.set_cons_succ]
        refine' wpAnyH_take (i := 10) (v := ?v10z3) ?hi10z3 (by kernel_rfl) (by kernel_rfl) (by kernel_rfl) ?hq10z3 (Or.inl ⟨?hw10z3, ?hy10z3⟩) (by assumption) ?hr10z3
        case hi10z3 => (simp only [List.getElem?_toArray, List.getElem?_cons_zero, List.getElem?_cons_succ]; exact rfl)
        case hq10z3 => exact fun _ _ _ h => h
        case hw10z3 => rfl
        case hy10z3 =>
          intro wz hz
          (try dsimp only at hz)
          go_simp
          all_goals with_reducible rfl
        try simp only [Act.put, List.setIfInBounds_toArray, List.set_cons_zero, List.set_cons_succ]
        refine' wpAnyH_take (i := 11) (v := ?v11z3) ?hi11z3 (by kernel_rfl) (by kernel_rfl) (by kernel_rfl) ?hq11z3 (Or.inl ⟨?hw11z3, ?hy11z3⟩) (by assumption) ?hr11z3
        case hi11z3 => (simp only [List.getElem?_toArray, List.getElem?_cons_zero, List.getElem?_cons_succ]; exact rfl)
        case hq11z3 => exact fun _ _ _ h => h
        case hw11z3 => rfl
        case hy11z3 =>
          intro wz hz
          (try dsimp only at hz)
          go_simp
          all_goals with_reducible rfl
        try simp only [Act.put, List.setIfInBounds_toArray, List.set_cons_zero, List.set_cons_succ]
        refine' wpAnyH_take (i := 12) (v := ?v12z3) ?hi12z3 (by kernel_rfl) (by kernel_rfl) (by kernel_rfl) ?hq12z3 (Or.inl ⟨?hw12z3, ?hy12z3⟩) (by assumption) ?hr12z3
        case hi12z3 => (simp only [List.getElem?_toArray, List.getElem?_cons_zero, List.getElem?_cons_succ]; exact rfl)
        case hq12z3 => exact fun _ _ _ h => h
        case hw12z3 => rfl
        case hy12z3 =>
          intro wz hz
          (try dsimp only at hz)
          go_simp
          all_goals with_reducible rfl
        try simp only [Act.put, List.setIfInBounds_toArray, List.set_cons_zero, List.set_cons_succ]
        refine' wpAnyH_take (i := 13) (v := ?v13z3) ?hi13z3 (by kernel_rfl) (by kernel_rfl) (by kernel_rfl) ?hq13z3 (Or.inl ⟨?hw13z3, ?hy13z3⟩) (by assumption) ?hr13z3
        case hi13z3 => (simp only [List.getElem?_toArray, List.getElem?_cons_zero, List.getElem?_cons_succ]; exact rfl)
        case hq13z3 => exact fun _ _ _ h => h
        case hw13z3 => rfl
        case hy13z3 =>
          intro wz hz
          (try dsimp only at hz)
          go_simp
          all_goals with_reducible rfl
        try simp only [Act.put, List.setIfInBounds_toArray, List.set_cons_zero, List.set_cons_succ]
        refine' wpAnyH_take (i := 14) (v := ?v14z3) ?hi14z3 (by kernel_rfl) (by kernel_rfl) (by kernel_rfl) ?hq14z3 (Or.inl ⟨?hw14z3, ?hy14z3⟩) (by assumption) ?hr14z3
        case hi14z3 => (simp only [List.getElem?_toArray, List.getElem?_cons_zero, List.getElem?_cons_succ]; exact rfl)
        case hq14z3 => exact fun _ _ _ h => h
        case hw14z3 => rfl
        case hy14z3 =>
          intro wz hz
          (try dsimp only at hz)
          go_simp
          all_goals with_reducible rfl
        try simp only [Act.put, List.setIfInBounds_toArray, List.set_cons_zero, List.set_cons_succ]
        refine' wpAnyH_take (i := 15) (v := ?v15z3) ?hi15z3 (by kernel_rfl) (by kernel_rfl) (by kernel_rfl) ?hq15z3 (Or.inl ⟨?hw15z3, ?hy15z3⟩) (by assumption) ?hr15z3
        case hi15z3 => (simp only [List.getElem?_toArray, List.getElem?_cons_zero, List.getElem?_cons_succ]; exact rfl)
        case hq15z3 => exact fun _ _ _ h => h
        case hw15z3 => rfl
        case hy15z3 =>
          intro wz hz
          (try dsimp only at hz)
          go_simp
          all_goals with_reducible rfl
        try simp only [Act.put, List.setIfInBounds_toArray, List.set_cons_zero, List.set_cons_succ]
        refine' wpAnyH_take (i := 16) (v := ?v16z3) ?hi16z3 (by kernel_rfl) (by kernel_rfl) (by kernel_rfl) ?hq16z3 (Or.inl ⟨?hw16z3, ?hy16z3⟩) (by assumption) ?hr16z3
        case hi16z3 => (simp only [List.getElem?_toArray, List.getElem?_cons_zero, List.getElem?_cons_succ]; exact rfl)
        case hq16z3 => exact fun _ _ _ h => h
        case hw16z3 => rfl
        case hy16z3 =>
          intro wz hz
          (try dsimp only at hz)
          go_simp
          all_goals with_reducible rfl
        try simp only [Act.put, List.setIfInBounds_toArray, List.set_cons_zero, List.set_cons_succ]
        refine' wpAnyH_take (i := 17) (v := ?v17z3) ?hi17z3 (by kernel_rfl) (by kernel_rfl) (by kernel_rfl) ?hq17z3 (Or.inl ⟨?hw17z3, ?hy17z3⟩) (by assumption) ?hr17z3
        case hi17z3 => (simp only [List.getElem?_toArray, List.getElem?_cons_zero, List.getElem?_cons_succ]; exact rfl)
        case hq17z3 => exact fun _ _ _ h => h
        case hw17z3 => rfl
        case hy17z3 =>
          intro wz hz
          (try dsimp only at hz)
          go_simp
          all_goals with_reducible rfl
        try simp only [Act.put, List.setIfInBounds_toArray, List.set_cons_zero, List.set_cons_succ]
        refine' wpAnyH_take (i := 18) (v := ?v18z3) ?hi18z3 (by kernel_rfl) (by kernel_rfl) (by kernel_rfl) ?hq18z3 (Or.inl ⟨?hw18z3, ?hy18z3⟩) (by assumption) ?hr18z3
        case hi18z3 => (simp only [List.getElem?_toArray, List.getElem?_cons_zero, List.getElem?_cons_succ]; exact rfl)
        case hq18z3 => exact fun _ _ _ h => h
        case hw18z3 => rfl
        case hy18z3 =>
          intro wz hz
          (try dsimp only at hz)
          go_simp
          all_goals with_reducible rfl
        try simp only [Act.put, List.setIfInBounds_toArray, List.set_cons_zero, List.set_cons_succ]
        refine' wpAnyH_take (i := 19) (v := ?v19z3) ?hi19z3 (by kernel_rfl) (by kernel_rfl) (by kernel_rfl) ?hq19z3 (Or.inl ⟨?hw19z3, ?hy19z3⟩) (by assumption) ?hr19z3
        case hi19z3 => (simp only [List.getElem?_toArray, List.getElem?_cons_zero, List.getElem?_cons_succ]; exact rfl)
        case hq19z3 => exact fun _ _ _ h => h
        case hw19z3 => rfl
        case hy19z3 =>
          intro wz hz
          (try dsimp only at hz)
          go_simp
          all_goals with_reducible rfl
        try simp only [Act.put, List.setIfInBounds_toArray, List.set_cons_zero, List.set_cons_succ]
        refine' wpAnyH_take (i := 20) (v := ?v20z3) ?hi20z3 (by kernel_rfl) (by kernel_rfl) (by kernel_rfl) ?hq20z3 (Or.inl ⟨?hw20z3, ?hy20z3⟩) (by assumption) ?hr20z3
        case hi20z3 => (simp only [List.getElem?_toArray, List.getElem?_cons_zero, List.getElem?_cons_succ]; exact rfl)
        case hq20z3 => exact fun _ _ _ h => h
        case hw20z3 => rfl
        case hy20z3 =>
          intro wz hz
          (try dsimp only at hz)
          go_simp
          all_goals with_reducible rfl
        try simp only [Act.put, List.setIfInBounds_toArray, List.set_cons_zero, List.set_cons_succ]
        refine' wpAnyH_take (i := 21) (v := ?v21z3) ?hi21z3 (by kernel_rfl) (by kernel_rfl) (by kernel_rfl) ?hq21z3 (Or.inl ⟨?hw21z3, ?hy21z3⟩) (by assumption) ?hr21z3
        case hi21z3 => (simp only [List.getElem?_toArray, List.getElem?_cons_zero, List.getElem?_cons_succ]; exact rfl)
        case hq21z3 => exact fun _ _ _ h => h
        case hw21z3 => rfl
        case hy21z3 =>
          intro wz hz
          (try dsimp only at hz)
          go_simp
          all_goals with_reducible rfl
        try simp only [Act.put, List.setIfInBounds_toArray, List.set_cons_zero, List.set_cons_succ]
        refine' wpAnyH_take (i := 22) (v := ?v22z3) ?hi22z3 (by kernel_rfl) (by kernel_rfl) (by kernel_rfl) ?hq22z3 (Or.inl ⟨?hw22z3, ?hy22z3⟩) (by assumption) ?hr22z3
        case hi22z3 => (simp only [List.getElem?_toArray, List.getElem?_cons_zero, List.getElem?_cons_succ]; exact rfl)
        case hq22z3 => exact fun _ _ _ h => h
        case hw22z3 => rfl
        case hy22z3 =>
          intro wz hz
          (try dsimp only at hz)
          go_simp
          all_goals with_reducible rfl
        try simp only [Act.put, List.setIfInBounds_toArray, List.set_cons_zero, List.set_cons_succ]
        refine' wpAnyH_take (i := 23) (v := ?v23z3) ?hi23z3 (by kernel_rfl) (by kernel_rfl) (by kernel_rfl) ?hq23z3 (Or.inl ⟨?hw23z3, ?hy23z3⟩) (by assumption) ?hr23z3
        case hi23z3 => (simp only [List.getElem?_toArray, List.getElem?_cons_zero, List.getElem?_cons_succ]; exact rfl)
        case hq23z3 => exact fun _ _ _ h => h
        case hw23z3 => rfl
        case hy23z3 =>
          intro wz hz
          (try dsimp only at hz)
          go_simp
          all_goals with_reducible rfl
        try simp only [Act.put, List.setIfInBounds_toArray, List.set_cons_zero, List.set_cons_succ]
        refine' wpAnyH_take (i := 24) (v := ?v24z3) ?hi24z3 (by kernel_rfl) (by kernel_rfl) (by kernel_rfl) ?hq24z3 (Or.inl ⟨?hw24z3, ?hy24z3⟩) (by assumption) ?hr24z3
        case hi24z3 => (simp only [List.getElem?_toArray, List.getElem?_cons_zero, List.getElem?_cons_succ]; exact rfl)
        case hq24z3 => exact fun _ _ _ h => h
        case hw24z3 => rfl
        case hy24z3 =>
          intro wz hz
          (try dsimp only at hz)
          go_simp
          all_goals with_reducible rfl
        try simp only [Act.put, List.setIfInBounds_toArray, List.set_cons_zero, List.set_cons_succ]
        refine' wpAnyH_take (i := 25) (v := ?v25z3) ?hi25z3 (by kernel_rfl) (by kernel_rfl) (by kernel_rfl) ?hq25z3 (Or.inl ⟨?hw25z3, ?hy25z3⟩) (by assumption) ?hr25z3
        case hi25z3 => (simp only [List.getElem?_toArray, List.getElem?_cons_zero, List.getElem?_cons_succ]; exact rfl)
        case hq25z3 => exact fun _ _ _ h => h
        case hw25z3 => rfl
        case hy25z3 =>
          intro wz hz
          (try dsimp only at hz)
          go_simp
          all_goals with_reducible rfl
        try simp only [Act.put, List.setIfInBounds_toArray, List.set_cons_zero, List.set_cons_succ]
        refine' wpAnyH_take (i := 26) (v := ?v26z3) ?hi26z3 (by kernel_rfl) (by kernel_rfl) (by kernel_rfl) ?hq26z3 (Or.inl ⟨?hw26z3, ?hy26z3⟩) (by assumption) ?hr26z3
        case hi26z3 => (simp only [List.getElem?_toArray, List.getElem?_cons_zero, List.getElem?_cons_succ]; exact rfl)
        case hq26z3 => exact fun _ _ _ h => h
        case hw26z3 => rfl
        case hy26z3 =>
          intro wz hz
          (try dsimp only at hz)
          go_simp
          all_goals with_reducible rfl
        try simp only [Act.put, List.setIfInBounds_toArray, List.set_cons_zero, List.set_cons_succ]
        refine' wpAnyH_take (i := 27) (v := ?v27z3) ?hi27z3 (by kernel_rfl) (by kernel_rfl) (by kernel_rfl) ?hq27z3 (Or.inl ⟨?hw27z3, ?hy27z3⟩) (by assumption) ?hr27z3
        case hi27z3 => (simp only [List.getElem?_toArray, List.getElem?_cons_zero, List.getElem?_cons_succ]; exact rfl)
        case hq27z3 => exact fun _ _ _ h => h
        case hw27z3 => rfl
        case hy27z3 =>
          intro wz hz
          (try dsimp only at hz)
          go_simp
          all_goals with_reducible rfl
        try simp only [Act.put, List.setIfInBounds_toArray, List.set_cons_zero, List.set_cons_succ]
        refine' wpAnyH_take (i := 28) (v := ?v28z3) ?hi28z3 (by kernel_rfl) (by kernel_rfl) (by kernel_rfl) ?hq28z3 (Or.inl ⟨?hw28z3, ?hy28z3⟩) (by assumption) ?hr28z3
        case hi28z3 => (simp only [List.getElem?_toArray, List.getElem?_cons_zero, List.getElem?_cons_succ]; exact rfl)
        case hq28z3 => exact fun _ _ _ h => h
        case hw28z3 => rfl
        case hy28z3 =>
          intro wz hz
          (try dsimp only at hz)
          go_simp
          all_goals with_reducible rfl
        try simp only [Act.put, List.setIfInBounds_toArray, List.set_cons_zero, List.set_cons_succ]
        refine' wpAnyH_take (i := 29) (v := ?v29z3) ?hi29z3 (by kernel_rfl) (by kernel_rfl) (by kernel_rfl) ?hq29z3 (Or.inl ⟨?hw29z3, ?hy29z3⟩) (by assumption) ?hr29z3
        case hi29z3 => (simp only [List.getElem?_toArray, List.getElem?_cons_zero, List.getElem?_cons_succ]; exact rfl)
        case hq29z3 => exact fun _ _ _ h => h
        case hw29z3 => rfl
        case hy29z3 =>
          intro wz hz
          (try dsimp only at hz)
          go_simp
          all_goals with_reducible rfl
        try simp only [Act.put, List.setIfInBounds_toArray, List.set_cons_zero, List.set_cons_succ]
        refine' wpAnyH_take (i := 30) (v := ?v30z3) ?hi30z3 (by kernel_rfl) (by kernel_rfl) (by kernel_rfl) ?hq30z3 (Or.inl ⟨?hw30z3, ?hy30z3⟩) (by assumption) ?hr30z3
        case hi30z3 => (simp only [List.getElem?_toArray, List.getElem?_cons_zero, List.getElem?_cons_succ]; exact rfl)
        case hq30z3 => exact fun _ _ _ h => h
        case hw30z3 => rfl
        case hy30z3 =>
          intro wz hz
          (try dsimp only at hz)
          go_simp
          all_goals with_reducible rfl
        try simp only [Act.put, List.setIfInBounds_toArray, List.set_cons_zero, List.set_cons_succ]
        refine' wpAnyH_take (i := 31) (v := ?v31z3) ?hi31z3 (by kernel_rfl) (by kernel_rfl) (by kernel_rfl) ?hq31z3 (Or.inl ⟨?hw31z3, ?hy31z3⟩) (by assumption) ?hr31z3
        case hi31z3 => (simp only [List.getElem?_toArray, List.getElem?_cons_zero, List.getElem?_cons_succ]; exact rfl)
        case hq31z3 => exact fun _ _ _ h => h
        case hw31z3 => rfl
        case hy31z3 =>
          intro wz hz
          (try dsimp only at hz)
          go_simp
          all_goals with_reducible rfl
        try simp only [Act.put, List.setIfInBounds_toArray, List.set_cons_zero, List.set_cons_succ]
        refine' wpAnyH_take (i := 32) (v := ?v32z3) ?hi32z3 (by kernel_rfl) (by kernel_rfl) (by kernel_rfl) ?hq32z3 (Or.inl ⟨?hw32z3, ?hy32z3⟩) (by assumption) ?hr32z3
        case hi32z3 => (simp only [List.getElem?_toArray, List.getElem?_cons_zero, List.getElem?_cons_succ]; exact rfl)
        case hq32z3 => exact fun _ _ _ h => h
        case hw32z3 => rfl
        case hy32z3 =>
          intro wz hz
          (try dsimp only at hz)
          go_simp
          all_goals with_reducible rfl
        try simp only [Act.put, List.setIfInBounds_toArray, List.set_cons_zero, List.set_cons_succ]
        refine' wpAnyH_take (i := 33) (v := ?v33z3) ?hi33z3 (by kernel_rfl) (by kernel_rfl) (by kernel_rfl) ?hq33z3 (Or.inl ⟨?hw33z3, ?hy33z3⟩) (by assumption) ?hr33z3
        case hi33z3 => (simp only [List.getElem?_toArray, List.getElem?_cons_zero, List.getElem?_cons_succ]; exact rfl)
        case hq33z3 => exact fun _ _ _ h => h
        case hw33z3 => rfl
        case hy33z3 =>
          intro wz hz
          (try dsimp only at hz)
          go_simp
          all_goals with_reducible rfl
        try simp only [Act.put, List.setIfInBounds_toArray, List.set_cons_zero, List.set_cons_succ]
        refine' wpAnyH_take (i := 34) (v := ?v34z3) ?hi34z3 (by kernel_rfl) (by kernel_rfl) (by kernel_rfl) ?hq34z3 (Or.inl ⟨?hw34z3, ?hy34z3⟩) (by assumption) ?hr34z3
        case hi34z3 => (simp only [List.getElem?_toArray, List.getElem?_cons_zero, List.getElem?_cons_succ]; exact rfl)
        case hq34z3 => exact fun _ _ _ h => h
        case hw34z3 => rfl
        case hy34z3 =>
          intro wz hz
          (try dsimp only at hz)
          go_simp
          all_goals with_reducible rfl
        try simp only [Act.put, List.setIfInBounds_toArray, List.set_cons_zero, List.set_cons_succ]
        refine' wpAnyH_take (i := 35) (v := ?v35z3) ?hi35z3 (by kernel_rfl) (by kernel_rfl) (by kernel_rfl) ?hq35z3 (Or.inl ⟨?hw35z3, ?hy35z3⟩) (by assumption) ?hr35z3
        case hi35z3 => (simp only [List.getElem?_toArray, List.getElem?_cons_zero, List.getElem?_cons_succ]; exact rfl)
        case hq35z3 => exact fun _ _ _ h => h
        case hw35z3 => rfl
        case hy35z3 =>
          intro wz hz
          (try dsimp only at hz)
          go_simp
          all_goals with_reducible rfl
        try simp only [Act.put, List.setIfInBounds_toArray, List.set_cons_zero, List.set_cons_succ]
        refine' wpAnyH_take (i := 36) (v := ?v36z3) ?hi36z3 (by kernel_rfl) (by kernel_rfl) (by kernel_rfl) ?hq36z3 (Or.inl ⟨?hw36z3, ?hy36z3⟩) (by assumption) ?hr36z3
        case hi36z3 => (simp only [List.getElem?_toArray, List.getElem?_cons_zero, List.getElem?_cons_succ]; exact rfl)
        case hq36z3 => exact fun _ _ _ h => h
        case hw36z3 => rfl
        case hy36z3 =>
          intro wz hz
          (try dsimp only at hz)
          go_simp
          all_goals with_reducible rfl
        try simp only [Act.put, List.setIfInBounds_toArray, List.set_cons_zero, List.set_cons_succ]
        refine' wpAnyH_take (i := 37) (v := ?v37z3) ?hi37z3 (by kernel_rfl) (by kernel_rfl) (by kernel_rfl) ?hq37z3 (Or.inl ⟨?hw37z3, ?hy37z3⟩) (by assumption) ?hr37z3
        case hi37z3 => (simp only [List.getElem?_toArray, List.getElem?_cons_zero, List.getElem?_cons_succ]; exact rfl)
        case hq37z3 => exact fun _ _ _ h => h
        case hw37z3 => rfl
        case hy37z3 =>
          intro wz hz
          (try dsimp only at hz)
          go_simp
          all_goals with_reducible rfl
        try simp only [Act.put, List.setIfInBounds_toArray, List.set_cons_zero, List.set_cons_succ]
        refine wpAnyH_done (by kernel_rfl) ?_ _
        have hS2 := Lib.hid (hcl.out _ (Below.refl wr.heap.size wr).drew).2
        have hS3 := Lib.hid (hcl.out _ ((Below.refl wr.heap.size wr).drew).drew).2
        have hS6 := Lib.hid (hcl.out _ (((Below.refl wr.heap.size wr).alloc (Nat.le_refl _) (.cells #[.int .i64 0, .int .i64 0, .int .i64 0] 23)).drew).drew).2
        have hS7 := Lib.hid (hcl.out _ ((Below.refl wr.heap.size wr).alloc (Nat.le_refl _) (.cells #[.int .i64 0, .int .i64 0, .int .i64 0] 23)).drew).2
        have hf2 : Hid (∀ W, (W.cell? ⟨w4.heap.size, 0, none⟩ = some (.int .i64 b) ∧ W.cell? ⟨w4.heap.size, 1, none⟩ = some (.int .i64 3) ∧ W.cell? ⟨w4.heap.size, 2, none⟩ = some (.int .i64 (b + o)) ∧ W.cell? ⟨g1, 3, none⟩ = some (.int .i64 (b + o)) ∧ Below wr.heap.size wr W) → Calls Try.prog 8 #[turnV b 3 (b + o), .int .i64 (b + o)] W fun e w' => e = .returned (.tuple #[turnV b 4 (b + offT 4), .bool false, .int .i64 0]) ∧ (w'.cell? ⟨w4.heap.size, 0, none⟩ = some (.int .i64 b) ∧ w'.cell? ⟨w4.heap.size, 1, none⟩ = some (.int .i64 3) ∧ w'.cell? ⟨w4.heap.size, 2, none⟩ = some (.int .i64 (b + o)) ∧ w'.cell? ⟨g1, 3, none⟩ = some (.int .i64 (b + o)) ∧ Below wr.heap.size wr w') ∧ Below W.heap.size W w') := Lib.hid fun W hW => by
          refine (hf.out W).mono fun e w' ⟨h1, h2⟩ => ⟨h1, (hcl.out _ ?_).2, h2⟩
          exact hW.2.2.2.2.trans (h2.mono hW.2.2.2.2.size)
        have hal : Hid (∀ W ob, (W.cell? ⟨w4.heap.size, 0, none⟩ = some (.int .i64 b) ∧ W.cell? ⟨w4.heap.size, 1, none⟩ = some (.int .i64 3) ∧ W.cell? ⟨w4.heap.size, 2, none⟩ = some (.int .i64 (b + o)) ∧ W.cell? ⟨g1, 3, none⟩ = some (.int .i64 (b + o)) ∧ Below wr.heap.size wr W) → ((W.alloc ob).cell? ⟨w4.heap.size, 0, none⟩ = some (.int .i64 b) ∧ (W.alloc ob).cell? ⟨w4.heap.size, 1, none⟩ = some (.int .i64 3) ∧ (W.alloc ob).cell? ⟨w4.heap.size, 2, none⟩ = some (.int .i64 (b + o)) ∧ (W.alloc ob).cell? ⟨g1, 3, none⟩ = some (.int .i64 (b + o)) ∧ Below wr.heap.size wr (W.alloc ob))) := Lib.hid fun W ob hW => (hcl.out _ (hW.2.2.2.2.alloc hW.2.2.2.2.size ob)).2
        have hst : Hid (∀ W (nb : Nat) (y0 y1 y2 : Int), wr.heap.size ≤ nb → (W.cell? ⟨w4.heap.size, 0, none⟩ = some (.int .i64 b) ∧ W.cell? ⟨w4.heap.size, 1, none⟩ = some (.int .i64 3) ∧ W.cell? ⟨w4.heap.size, 2, none⟩ = some (.int .i64 (b + o)) ∧ W.cell? ⟨g1, 3, none⟩ = some (.int .i64 (b + o)) ∧ Below wr.heap.size wr W) → ((putT3 W nb y0 y1 y2).cell? ⟨w4.heap.size, 0, none⟩ = some (.int .i64 b) ∧ (putT3 W nb y0 y1 y2).cell? ⟨w4.heap.size, 1, none⟩ = some (.int .i64 3) ∧ (putT3 W nb y0 y1 y2).cell? ⟨w4.heap.size, 2, none⟩ = some (.int .i64 (b + o)) ∧ (putT3 W nb y0 y1 y2).cell? ⟨g1, 3, none⟩ = some (.int .i64 (b + o)) ∧ Below wr.heap.size wr (putT3 W nb y0 y1 y2))) := Lib.hid fun W nb y0 y1 y2 hnb hW => (hcl.out _ (putT3_below hW.2.2.2.2 hnb y0 y1 y2)).2
        unfold putT3 at hst
        clear hS0 hS1 hf hcl
        go_wp2_with fail
        refine wp_region_held_drew (S := (fun W => W.cell? ⟨w4.heap.size, 0, none⟩ = some (.int .i64 b) ∧ W.cell? ⟨w4.heap.size, 1, none⟩ = some (.int .i64 3) ∧ W.cell? ⟨w4.heap.size, 2, none⟩ = some (.int .i64 (b + o)) ∧ W.cell? ⟨g1, 3, none⟩ = some (.int .i64 (b + o)) ∧ Below wr.heap.size wr W)) (by kernel_rfl) (by first | assumption | exact hS2.out | exact hS3.out) (fun hHeld => ?_)
        refine' wpAnyH_take (i := 0) (v := ?v0y3) ?hi0y3 (by kernel_rfl) (by kernel_rfl) (by kernel_rfl) ?hq0y3 (Or.inl ⟨?hw0y3, ?hy0y3⟩) (by assumption) ?hr0y3
        case hi0y3 => (simp only [List.getElem?_toArray, List.getElem?_cons_zero]; exact rfl)
        case hq0y3 => exact fun _ _ _ h => h
        case hw0y3 => rfl
        case hy0y3 =>
          intro wz hz
          (try dsimp only at hz)
          go_simp
          all_goals with_reducible rfl
        try simp only [Act.put, List.setIfInBounds_toArray, List.set_cons_zero, List.set_cons_succ]
        refine' wpAnyH_take (i := 1) (v := ?v1y3) ?hi1y3 (by kernel_rfl) (by kernel_rfl) (by kernel_rfl) ?hq1y3 (Or.inl ⟨?hw1y3, ?hy1y3⟩) (by assumption) ?hr1y3
        case hi1y3 => (simp only [List.getElem?_toArray, List.getElem?_cons_zero, List.getElem?_cons_succ]; exact rfl)
        case hq1y3 => exact fun _ _ _ h => h
        case hw1y3 => rfl
        case hy1y3 =>
          intro wz hz
          (try dsimp only at hz)
          go_simp
          all_goals with_reducible rfl
        try simp only [Act.put, List.setIfInBounds_toArray, List.set_cons_zero, List.set_cons_succ]
        refine' wpAnyH_take (i := 2) (v := ?v2y3) ?hi2y3 (by kernel_rfl) (by kernel_rfl) (by kernel_rfl) ?hq2y3 (Or.inl ⟨?hw2y3, ?hy2y3⟩) (by assumption) ?hr2y3
        case hi2y3 => (simp only [List.getElem?_toArray, List.getElem?_cons_zero, List.getElem?_cons_succ]; exact rfl)
        case hq2y3 => exact fun _ _ _ h => h
        case hw2y3 => rfl
        case hy2y3 =>
          intro wz hz
          (try dsimp only at hz)
          go_simp
          all_goals with_reducible rfl
        try simp only [Act.put, List.setIfInBounds_toArray, List.set_cons_zero, List.set_cons_succ]
        refine' wpAnyH_take (i := 3) (v := ?v3y3) ?hi3y3 (by kernel_rfl) (by kernel_rfl) (by kernel_rfl) ?hq3y3 (Or.inl ⟨?hw3y3, ?hy3y3⟩) (by assumption) ?hr3y3
        case hi3y3 => (simp only [List.getElem?_toArray, List.getElem?_cons_zero, List.getElem?_cons_succ]; exact rfl)
        case hq3y3 => exact fun _ _ _ h => h
        case hw3y3 => rfl
        case hy3y3 =>
          intro wz hz
          (try dsimp only at hz)
          go_simp
          all_goals with_reducible rfl
        try simp only [Act.put, List.setIfInBounds_toArray, List.set_cons_zero, List.set_cons_succ]
        refine' wpAnyH_take (i := 4) (v := ?v4y3) ?hi4y3 (by kernel_rfl) (by kernel_rfl) (by kernel_rfl) ?hq4y3 (Or.inl ⟨?hw4y3, ?hy4y3⟩) (by assumption) ?hr4y3
        case hi4y3 => (simp only [List.getElem?_toArray, List.getElem?_cons_zero, List.getElem?_cons_succ]; exact rfl)
        case hq4y3 => exact fun _ _ _ h => h
        case hw4y3 => rfl
        case hy4y3 =>
          intro wz hz
          (try dsimp only at hz)
          go_simp
          all_goals with_reducible rfl
        try simp only [Act.put, List.setIfInBounds_toArray, List.set_cons_zero, List.set_cons_succ]
        refine wpAnyH_ready (rs := [5, 10]) (by kernel_rfl) (by simp) ?_
        refine AllReadyH.cons (o := ?hoA3) ?hioA3 (fun KA hKA => ?hsA3) ?hmA3
        case hioA3 => (simp only [List.getElem?_toArray, List.getElem?_cons_zero, List.getElem?_cons_succ]; exact rfl)
        case hsA3 =>
          go_simp
          go_at_call 8
          with_reducible refine (hf2.out _ ?_).mono ?_
          · assumption
          rintro e w5 ⟨rfl, hS5, hb5⟩
          refine hKA.out _ _ hS5 (fun hHeld5 => ?_)
          try simp only [Act.put, List.setIfInBounds_toArray, List.set_cons_zero, List.set_cons_succ]
          refine' wpAnyH_take (i := 6) (v := ?v6yA3) ?hi6yA3 (by kernel_rfl) (by kernel_rfl) (by kernel_rfl) ?hq6yA3 (Or.inl ⟨?hw6yA3, ?hy6yA3⟩) (by assumption) ?hr6yA3
          case hi6yA3 => (simp only [List.getElem?_toArray, List.getElem?_cons_zero, List.getElem?_cons_succ]; exact rfl)
          case hq6yA3 => exact fun _ _ _ h => h
          case hw6yA3 => rfl
          case hy6yA3 =>
            intro wz hz
            (try dsimp only at hz)
            go_simp
            all_goals with_reducible rfl
          try simp only [Act.put, List.setIfInBounds_toArray, List.set_cons_zero, List.set_cons_succ]
          refine' wpAnyH_take (i := 7) (v := ?v7yA3) ?hi7yA3 (by kernel_rfl) (by kernel_rfl) (by kernel_rfl) ?hq7yA3 (Or.inl ⟨?hw7yA3, ?hy7yA3⟩) (by assumption) ?hr7yA3
          case hi7yA3 => (simp only [List.getElem?_toArray, List.getElem?_cons_zero, List.getElem?_cons_succ]; exact rfl)
          case hq7yA3 => exact fun _ _ _ h => h
          case hw7yA3 => rfl
          case hy7yA3 =>
            intro wz hz
            (try dsimp only at hz)
            go_simp
            all_goals with_reducible rfl
          try simp only [Act.put, List.setIfInBounds_toArray, List.set_cons_zero, List.set_cons_succ]
          refine' wpAnyH_take (i := 8) (v := ?v8yA3) ?hi8yA3 (by kernel_rfl) (by kernel_rfl) (by kernel_rfl) ?hq8yA3 (Or.inl ⟨?hw8yA3, ?hy8yA3⟩) (by assumption) ?hr8yA3
          case hi8yA3 => (simp only [List.getElem?_toArray, List.getElem?_cons_zero, List.getElem?_cons_succ]; exact rfl)
          case hq8yA3 => exact fun _ _ _ h => h
          case hw8yA3 => rfl
          case hy8yA3 =>
            intro wz hz
            (try dsimp only at hz)
            go_simp
            all_goals with_reducible rfl
          try simp only [Act.put, List.setIfInBounds_toArray, List.set_cons_zero, List.set_cons_succ]
          refine' wpAnyH_take (i := 9) (v := ?v9yA3) ?hi9yA3 (by kernel_rfl) (by kernel_rfl) (by kernel_rfl) ?hq9yA3 (Or.inl ⟨?hw9yA3, ?hy9yA3⟩) (by assumption) ?hr9yA3
          case hi9yA3 => (simp only [List.getElem?_toArray, List.getElem?_cons_zero, List.getElem?_cons_succ]; exact rfl)
          case hq9yA3 => exact fun _ _ _ h => h
          case hw9yA3 => rfl
          case hy9yA3 =>
            intro wz hz
            (try dsimp only at hz)
            go_simp
            all_goals with_reducible rfl
          try simp only [Act.put, List.setIfInBounds_toArray, List.set_cons_zero, List.set_cons_succ]
          refine wpAnyH_ready (rs := [10]) (by kernel_rfl) (by simp) ?_
          refine AllReadyH.cons (o := ?hoB3) ?hioB3 (fun KB hKB => ?hsB3) AllReadyH.nil
          case hioB3 => (simp only [List.getElem?_toArray, List.getElem?_cons_zero, List.getElem?_cons_succ]; exact rfl)
          case hsB3 =>
            go_simp
            refine hKB.out _ _ (hal.out _ _ hS5) (fun hHeldB => ?_)
            try simp only [Act.put, List.setIfInBounds_toArray, List.set_cons_zero, List.set_cons_succ]
            refine wpAnyH_ready (rs := [11]) (by kernel_rfl) (by simp) ?_
            refine AllReadyH.cons (o := ?hoC3) ?hioC3 (fun KC hKC => ?hsC3) AllReadyH.nil
            case hioC3 => (simp only [List.getElem?_toArray, List.getElem?_cons_zero, List.getElem?_cons_succ]; exact rfl)
            case hsC3 =>
              go_simp
              refine hKC.out _ _ (hal.out _ _ hS5) (fun hHeldC => ?_)
              try simp only [Act.put, List.setIfInBounds_toArray, List.set_cons_zero, List.set_cons_succ]
              refine' wpAnyH_take (i := 12) (v := ?v12yC3) ?hi12yC3 (by kernel_rfl) (by kernel_rfl) (by kernel_rfl) ?hq12yC3 (Or.inl ⟨?hw12yC3, ?hy12yC3⟩) (by assumption) ?hr12yC3
              case hi12yC3 => (simp only [List.getElem?_toArray, List.getElem?_cons_zero, List.getElem?_cons_succ]; exact rfl)
              case hq12yC3 => exact fun _ _ _ h => h
              case hw12yC3 => rfl
              case hy12yC3 =>
                intro wz hz
                (try dsimp only at hz)
                go_simp
                all_goals with_reducible rfl
              try simp only [Act.put, List.setIfInBounds_toArray, List.set_cons_zero, List.set_cons_succ]
              refine' wpAnyH_take (i := 13) (v := ?v13yC3) ?hi13yC3 (by kernel_rfl) (by kernel_rfl) (by kernel_rfl) ?hq13yC3 (Or.inl ⟨?hw13yC3, ?hy13yC3⟩) (by assumption) ?hr13yC3
              case hi13yC3 => (simp only [List.getElem?_toArray, List.getElem?_cons_zero, List.getElem?_cons_succ]; exact rfl)
              case hq13yC3 => exact fun _ _ _ h => h
              case hw13yC3 => rfl
              case hy13yC3 =>
                intro wz hz
                (try dsimp only at hz)
                go_simp
                all_goals with_reducible rfl
              try simp only [Act.put, List.setIfInBounds_toArray, List.set_cons_zero, List.set_cons_succ]
              refine wpAnyH_done (by kernel_rfl) ?_ _
              have hbW := hS5.2.2.2.2.alloc hS5.2.2.2.2.size (.cells #[.int .i64 b, .int .i64 4, .int .i64 (b + offT 4)] 23)
              have t6 := HT.out.below hbW
              have u6 := turn_new w5 b 4 (b + offT 4)
              have hne : w5.heap.size ≠ w4.heap.size := by have := HT.out.lt; have := hS5.2.2.2.2.size; omega
              obtain ⟨p0, p1, p2, r0, r1, r2⟩ := t6.cells
              obtain ⟨u0, u1, u2, _⟩ := u6.cells
              have Fin := Lib.hid (plans_next hk2.out.1 hk2.out.2.1 HT.out hk2.out.2.2.2.1 hk2.out.2.2.2.2 hbW b 4 (b + offT 4))
              unfold putT3 at Fin
              (try unfold putT3 at u0 u1 u2)
              (try unfold putT3 at p0 p1 p2 r0 r1 r2)
              go_wp2
              go_roundw
              case rel => exact ⟨4, by omega, by go_num, Lib.hid ⟨Fin.out.1, Fin.out.2.1, ⟨_, _, _, Fin.out.2.2.1, fun h => ⟨rfl, rfl, rfl⟩⟩, Fin.out.2.2.2, hk2.out.2.2.2.2⟩⟩
              case measure => simp [intOf]
        case hmA3 =>
          refine AllReadyH.cons (o := ?hoD3) ?hioD3 (fun KD hKD => ?hsD3) AllReadyH.nil
          case hioD3 => (simp only [List.getElem?_toArray, List.getElem?_cons_zero, List.getElem?_cons_succ]; exact rfl)
          case hsD3 =>
            go_simp
            refine hKD.out _ _ (by first | exact hS6.out | exact hS7.out | exact hal.out _ _ (by assumption)) (fun hHeldD => ?_)
            try simp only [Act.put, List.setIfInBounds_toArray, List.set_cons_zero, List.set_cons_succ]
            refine wpAnyH_ready (rs := [5]) (by kernel_rfl) (by simp) ?_
            refine AllReadyH.cons (o := ?hoE3) ?hioE3 (fun KE hKE => ?hsE3) AllReadyH.nil
            case hioE3 => (simp only [List.getElem?_toArray, List.getElem?_cons_zero, List.getElem?_cons_succ]; exact rfl)
            case hsE3 =>
              go_simp
              go_at_call 8
              with_reducible refine (hf2.out _ ?_).mono ?_
              · assumption
              rintro e w5 ⟨rfl, hS5, hb5⟩
              have nb5 : TurnAt w5 wr.heap.size 0 0 0 := (hb5.block wr.heap.size (by simp)).trans (by first | exact turn_new wr 0 0 0 | exact turn_new wr.drew 0 0 0)
              obtain ⟨ka0, ka1, ka2, qa0, qa1, qa2⟩ := nb5.cells
              have hnb := Lib.hid nb5
              clear nb5
              refine hKE.out _ _ hS5 (fun hHeldE => ?_)
              try simp only [Act.put, List.setIfInBounds_toArray, List.set_cons_zero, List.set_cons_succ]
              refine' wpAnyH_take (i := 6) (v := ?v6yE3) ?hi6yE3 (by kernel_rfl) (by kernel_rfl) (by kernel_rfl) ?hq6yE3 (Or.inl ⟨?hw6yE3, ?hy6yE3⟩) (by assumption) ?hr6yE3
              case hi6yE3 => (simp only [List.getElem?_toArray, List.getElem?_cons_zero, List.getElem?_cons_succ]; exact rfl)
              case hq6yE3 => exact fun _ _ _ h => h
              case hw6yE3 => rfl
              case hy6yE3 =>
                intro wz hz
                (try dsimp only at hz)
                go_simp
                all_goals with_reducible rfl
              try simp only [Act.put, List.setIfInBounds_toArray, List.set_cons_zero, List.set_cons_succ]
              refine' wpAnyH_take (i := 7) (v := ?v7yE3) ?hi7yE3 (by kernel_rfl) (by kernel_rfl) (by kernel_rfl) ?hq7yE3 (Or.inl ⟨?hw7yE3, ?hy7yE3⟩) (by assumption) ?hr7yE3
              case hi7yE3 => (simp only [List.getElem?_toArray, List.getElem?_cons_zero, List.getElem?_cons_succ]; exact rfl)
              case hq7yE3 => exact fun _ _ _ h => h
              case hw7yE3 => rfl
              case hy7yE3 =>
                intro wz hz
                (try dsimp only at hz)
                go_simp
                all_goals with_reducible rfl
              try simp only [Act.put, List.setIfInBounds_toArray, List.set_cons_zero, List.set_cons_succ]
              refine' wpAnyH_take (i := 8) (v := ?v8yE3) ?hi8yE3 (by kernel_rfl) (by kernel_rfl) (by kernel_rfl) ?hq8yE3 (Or.inl ⟨?hw8yE3, ?hy8yE3⟩) (by assumption) ?hr8yE3
              case hi8yE3 => (simp only [List.getElem?_toArray, List.getElem?_cons_zero, List.getElem?_cons_succ]; exact rfl)
              case hq8yE3 => exact fun _ _ _ h => h
              case hw8yE3 => rfl
              case hy8yE3 =>
                intro wz hz
                (try dsimp only at hz)
                go_simp
                all_goals with_reducible rfl
              try simp only [Act.put, List.setIfInBounds_toArray, List.set_cons_zero, List.set_cons_succ]
              refine' wpAnyH_take (i := 9) (v := ?v9yE3) ?hi9yE3 (by kernel_rfl) (by kernel_rfl) (by kernel_rfl) ?hq9yE3 (Or.inl ⟨?hw9yE3, ?hy9yE3⟩) (by assumption) ?hr9yE3
              case hi9yE3 => (simp only [List.getElem?_toArray, List.getElem?_cons_zero, List.getElem?_cons_succ]; exact rfl)
              case hq9yE3 => exact fun _ _ _ h => h
              case hw9yE3 => rfl
              case hy9yE3 =>
                intro wz hz
                (try dsimp only at hz)
                go_simp
                all_goals with_reducible rfl
              try simp only [Act.put, List.setIfInBounds_toArray, List.set_cons_zero, List.set_cons_succ]
              refine wpAnyH_ready (rs := [11]) (by kernel_rfl) (by simp) ?_
              refine AllReadyH.cons (o := ?hoF3) ?hioF3 (fun KF hKF => ?hsF3) AllReadyH.nil
              case hioF3 => (simp only [List.getElem?_toArray, List.getElem?_cons_zero, List.getElem?_cons_succ]; exact rfl)
              case hsF3 =>
                go_simp
                refine hKF.out _ _ (hst.out _ _ _ _ _ (Nat.le_refl _) hS5) (fun hHeldF => ?_)
                try simp only [Act.put, List.setIfInBounds_toArray, List.set_cons_zero, List.set_cons_succ]
                refine' wpAnyH_take (i := 12) (v := ?v12yF3) ?hi12yF3 (by kernel_rfl) (by kernel_rfl) (by kernel_rfl) ?hq12yF3 (Or.inl ⟨?hw12yF3, ?hy12yF3⟩) (by assumption) ?hr12yF3
                case hi12yF3 => (simp only [List.getElem?_toArray, List.getElem?_cons_zero, List.getElem?_cons_succ]; exact rfl)
                case hq12yF3 => exact fun _ _ _ h => h
                case hw12yF3 => rfl
                case hy12yF3 =>
                  intro wz hz
                  (try dsimp only at hz)
                  go_simp
                  all_goals with_reducible rfl
                try simp only [Act.put, List.setIfInBounds_toArray, List.set_cons_zero, List.set_cons_succ]
                refine' wpAnyH_take (i := 13) (v := ?v13yF3) ?hi13yF3 (by kernel_rfl) (by kernel_rfl) (by kernel_rfl) ?hq13yF3 (Or.inl ⟨?hw13yF3, ?hy13yF3⟩) (by assumption) ?hr13yF3
                case hi13yF3 => (simp only [List.getElem?_toArray, List.getElem?_cons_zero, List.getElem?_cons_succ]; exact rfl)
                case hq13yF3 => exact fun _ _ _ h => h
                case hw13yF3 => rfl
                case hy13yF3 =>
                  intro wz hz
                  (try dsimp only at hz)
                  go_simp
                  all_goals with_reducible rfl
                try simp only [Act.put, List.setIfInBounds_toArray, List.set_cons_zero, List.set_cons_succ]
                refine wpAnyH_done (by kernel_rfl) ?_ _
                have hbW := putT3_below hS5.2.2.2.2 (Nat.le_refl wr.heap.size) b 4 (b + offT 4)
                have t6 := HT.out.below hbW
                have u6 := hnb.out.put b 4 (b + offT 4)
                have hne : wr.heap.size ≠ w4.heap.size := by have := HT.out.lt; omega
                obtain ⟨p0, p1, p2, r0, r1, r2⟩ := t6.cells
                obtain ⟨u0, u1, u2, _⟩ := u6.cells
                have Fin := Lib.hid (plans_next hk2.out.1 hk2.out.2.1 HT.out hk2.out.2.2.2.1 hk2.out.2.2.2.2 hbW b 4 (b + offT 4))
                unfold putT3 at Fin
                (try unfold putT3 at u0 u1 u2)
                (try unfold putT3 at p0 p1 p2 r0 r1 r2)
                go_wp2
                go_roundw
                case rel => exact ⟨4, by omega, by go_num, Lib.hid ⟨Fin.out.1, Fin.out.2.1, ⟨_, _, _, Fin.out.2.2.1, fun h => ⟨rfl, rfl, rfl⟩⟩, Fin.out.2.2.2, hk2.out.2.2.2.2⟩⟩
                case measure => simp [intOf]
      | 4, _ =>
        obtain ⟨zp, hop⟩ := hprev.out 3 rfl
        obtain ⟨o', ho'⟩ : ∃ o', offT 3 = o' := ⟨_, rfl⟩
        rw [ho'] at zp hop
        have s2 : decide (b + o ≤ b + o') = false := decide_eq_false (by omega)
        have s3 : (b + o != b + o) = false := by simp
        have s4 : IntKind.i64.wrap (3 : Int) = 3 := by decide
        have HT := Lib.hid htn2
        clear htn2
        have hcl : Hid (∀ W, Below wr.heap.size wr W → (W.cell? ⟨g1, 4, none⟩ = some (.int .i64 (b + o)) ∧ W.cell? ⟨g2, 4, none⟩ = some (.int .i64 (later + o)) ∧ W.cell? ⟨w4.heap.size, 2, none⟩ = some (.int .i64 (b + o)) ∧ W.cell? ⟨g1, 3, none⟩ = some (.int .i64 (b + o')) ∧ Below wr.heap.size wr W) ∧ (W.cell? ⟨w4.heap.size, 0, none⟩ = some (.int .i64 b) ∧ W.cell? ⟨w4.heap.size, 1, none⟩ = some (.int .i64 4) ∧ W.cell? ⟨w4.heap.size, 2, none⟩ = some (.int .i64 (b + o)) ∧ W.cell? ⟨g1, 4, none⟩ = some (.int .i64 (b + o)) ∧ Below wr.heap.size wr W)) := Lib.hid fun W hW => by
          have hc : ∀ g o v, wr.cell? ⟨g, o, none⟩ = some v → W.cell? ⟨g, o, none⟩ = some v := fun g o v h => (hW.cell (p := ⟨g, o, none⟩) (cell_lt15 h)).trans h
          exact ⟨⟨hc _ _ _ z1, hc _ _ _ z2, hc _ _ _ c2, hc _ _ _ zp, hW⟩, hc _ _ _ c0, hc _ _ _ c1, hc _ _ _ c2, hc _ _ _ z1, hW⟩
        have hS0 := Lib.hid (hcl.out _ (Below.refl wr.heap.size wr)).1
        have hS1 := Lib.hid (hcl.out _ (Below.refl wr.heap.size wr).drew).1
        clear z1 z2 c0 c1 c2 zp hprev
        go_wp2_with fail
        refine wp_region_held_drew (S := (fun W => W.cell? ⟨g1, 4, none⟩ = some (.int .i64 (b + o)) ∧ W.cell? ⟨g2, 4, none⟩ = some (.int .i64 (later + o)) ∧ W.cell? ⟨w4.heap.size, 2, none⟩ = some (.int .i64 (b + o)) ∧ W.cell? ⟨g1, 3, none⟩ = some (.int .i64 (b + o')) ∧ Below wr.heap.size wr W)) (by kernel_rfl) (by first | assumption | exact hS0.out | exact hS1.out) (fun hHeld => ?_)
        refine' wpAnyH_take (i := 0) (v := ?v0z4) ?hi0z4 (by kernel_rfl) (by kernel_rfl) (by kernel_rfl) ?hq0z4 (Or.inl ⟨?hw0z4, ?hy0z4⟩) (by assumption) ?hr0z4
        case hi0z4 => (simp only [List.getElem?_toArray, List.getElem?_cons_zero]; exact rfl)
        case hq0z4 => exact fun _ _ _ h => h
        case hw0z4 => rfl
        case hy0z4 =>
          intro wz hz
          (try dsimp only at hz)
          go_simp
          all_goals with_reducible rfl
        try simp only [Act.put, List.setIfInBounds_toArray, List.set_cons_zero, List.set_cons_succ]
        refine' wpAnyH_take (i := 1) (v := ?v1z4) ?hi1z4 (by kernel_rfl) (by kernel_rfl) (by kernel_rfl) ?hq1z4 (Or.inl ⟨?hw1z4, ?hy1z4⟩) (by assumption) ?hr1z4
        case hi1z4 => (simp only [List.getElem?_toArray, List.getElem?_cons_zero, List.getElem?_cons_succ]; exact rfl)
        case hq1z4 => exact fun _ _ _ h => h
        case hw1z4 => rfl
        case hy1z4 =>
          intro wz hz
          (try dsimp only at hz)
          go_simp
          all_goals with_reducible rfl
        try simp only [Act.put, List.setIfInBounds_toArray, List.set_cons_zero, List.set_cons_succ]
        refine' wpAnyH_take (i := 2) (v := ?v2z4) ?hi2z4 (by kernel_rfl) (by kernel_rfl) (by kernel_rfl) ?hq2z4 (Or.inl ⟨?hw2z4, ?hy2z4⟩) (by assumption) ?hr2z4
        case hi2z4 => (simp only [List.getElem?_toArray, List.getElem?_cons_zero, List.getElem?_cons_succ]; exact rfl)
        case hq2z4 => exact fun _ _ _ h => h
        case hw2z4 => rfl
        case hy2z4 =>
          intro wz hz
          (try dsimp only at hz)
          go_simp
          all_goals with_reducible rfl
        try simp only [Act.put, List.setIfInBounds_toArray, List.set_cons_zero, List.set_cons_succ]
        refine' wpAnyH_take (i := 3) (v := ?v3z4) ?hi3z4 (by kernel_rfl) (by kernel_rfl) (by kernel_rfl) ?hq3z4 (Or.inl ⟨?hw3z4, ?hy3z4⟩) (by assumption) ?hr3z4
        case hi3z4 => (simp only [List.getElem?_toArray, List.getElem?_cons_zero, List.getElem?_cons_succ]; exact rfl)
        case hq3z4 => exact fun _ _ _ h => h
        case hw3z4 => rfl
        case hy3z4 =>
          intro wz hz
          (try dsimp only at hz)
          go_simp
          all_goals with_reducible rfl
        try simp only [Act.put, List.setIfInBounds_toArray, List.set_cons_zero, List.set_cons_succ]
        refine' wpAnyH_take (i := 4) (v := ?v4z4) ?hi4z4 (by kernel_rfl) (by kernel_rfl) (by kernel_rfl) ?hq4z4 (Or.inl ⟨?hw4z4, ?hy4z4⟩) (by assumption) ?hr4z4
        case hi4z4 => (simp only [List.getElem?_toArray, List.getElem?_cons_zero, List.getElem?_cons_succ]; exact rfl)
        case hq4z4 => exact fun _ _ _ h => h
        case hw4z4 => rfl
        case hy4z4 =>
          intro wz hz
          (try dsimp only at hz)
          go_simp
          all_goals with_reducible rfl
        try simp only [Act.put, List.setIfInBounds_toArray, List.set_cons_zero, List.set_cons_succ]
        refine' wpAnyH_take (i := 5) (v := ?v5z4) ?hi5z4 (by kernel_rfl) (by kernel_rfl) (by kernel_rfl) ?hq5z4 (Or.inl ⟨?hw5z4, ?hy5z4⟩) (by assumption) ?hr5z4
        case hi5z4 => (simp only [List.getElem?_toArray, List.getElem?_cons_zero, List.getElem?_cons_succ]; exact rfl)
        case hq5z4 => exact fun _ _ _ h => h
        case hw5z4 => rfl
        case hy5z4 =>
          intro wz hz
          (try dsimp only at hz)
          go_simp
          all_goals with_reducible rfl
        try simp only [Act.put, List.setIfInBounds_toArray, List.set_cons_zero, List.set_cons_succ]
        refine' wpAnyH_take (i := 6) (v := ?v6z4) ?hi6z4 (by kernel_rfl) (by kernel_rfl) (by kernel_rfl) ?hq6z4 (Or.inl ⟨?hw6z4, ?hy6z4⟩) (by assumption) ?hr6z4
        case hi6z4 => (simp only [List.getElem?_toArray, List.getElem?_cons_zero, List.getElem?_cons_succ]; exact rfl)
        case hq6z4 => exact fun _ _ _ h => h
        case hw6z4 => rfl
        case hy6z4 =>
          intro wz hz
          (try dsimp only at hz)
          go_simp
          all_goals with_reducible rfl
        try simp only [Act.put, List.setIfInBounds_toArray, List.set_cons_zero, List.set_cons_succ]
        refine' wpAnyH_take (i := 7) (v := ?v7z4) ?hi7z4 (by kernel_rfl) (by kernel_rfl) (by kernel_rfl) ?hq7z4 (Or.inl ⟨?hw7z4, ?hy7z4⟩) (by assumption) ?hr7z4
        case hi7z4 => (simp only [List.getElem?_toArray, List.getElem?_cons_zero, List.getElem?_cons_succ]; exact rfl)
        case hq7z4 => exact fun _ _ _ h => h
        case hw7z4 => rfl
        case hy7z4 =>
          intro wz hz
          (try dsimp only at hz)
          go_simp
          all_goals with_reducible rfl
        try simp only [Act.put, List.setIfInBounds_toArray, List.set_cons_zero, List.set_cons_succ]
        refine' wpAnyH_take (i := 8) (v := ?v8z4) ?hi8z4 (by kernel_rfl) (by kernel_rfl) (by kernel_rfl) ?hq8z4 (Or.inl ⟨?hw8z4, ?hy8z4⟩) (by assumption) ?hr8z4
        case hi8z4 => (simp only [List.getElem?_toArray, List.getElem?_cons_zero, List.getElem?_cons_succ]; exact rfl)
        case hq8z4 => exact fun _ _ _ h => h
        case hw8z4 => rfl
        case hy8z4 =>
          intro wz hz
          (try dsimp only at hz)
          go_simp
          all_goals with_reducible rfl
        try simp only [Act.put, List.setIfInBounds_toArray, List.set_cons_zero, List.set_cons_succ]
        refine' wpAnyH_take (i := 9) (v := ?v9z4) ?hi9z4 (by kernel_rfl) (by kernel_rfl) (by kernel_rfl) ?hq9z4 (Or.inl ⟨?hw9z4, ?hy9z4⟩) (by assumption) ?hr9z4
        case hi9z4 => (simp only [List.getElem?_toArray, List.getElem?_cons_zero, List.getElem?_cons_succ]; exact rfl)
        case hq9z4 => exact fun _ _ _ h => h
        case hw9z4 => rfl
        case hy9z4 =>
          intro wz hz
          (try dsimp only at hz)
          go_simp
          all_goals with_reducible rfl
        try simp only [Act.put, List.setIfInBounds_toArray, List.set_cons_zero, List.set_cons_succ]
        refine' wpAnyH_take (i := 10) (v := ?v10z4) ?hi10z4 (by kernel_rfl) (by kernel_rfl) (by kernel_rfl) ?hq10z4 (Or.inl ⟨?hw10z4, ?hy10z4⟩) (by assumption) ?hr10z4
        case hi10z4 => (simp only [List.getElem?_toArray, List.getElem?_cons_zero, List.getElem?_cons_succ]; exact rfl)
        case hq10z4 => exact fun _ _ _ h => h
        case hw10z4 => rfl
        case hy10z4 =>
          intro wz hz
          (try dsimp only at hz)
          go_simp
          all_goals with_reducible rfl
        try simp only [Act.put, List.setIfInBounds_toArray, List.set_cons_zero, List.set_cons_succ]
        refine' wpAnyH_take (i := 11) (v := ?v11z4) ?hi11z4 (by kernel_rfl) (by kernel_rfl) (by kernel_rfl) ?hq11z4 (Or.inl ⟨?hw11z4, ?hy11z4⟩) (by assumption) ?hr11z4
        case hi11z4 => (simp only [List.getElem?_toArray, List.getElem?_cons_zero, List.getElem?_cons_succ]; exact rfl)
        case hq11z4 => exact fun _ _ _ h => h
        case hw11z4 => rfl
        case hy11z4 =>
          intro wz hz
          (try dsimp only at hz)
          go_simp
          all_goals with_reducible rfl
        try simp only [Act.put, List.setIfInBounds_toArray, List.set_cons_zero, List.set_cons_succ]
        refine' wpAnyH_take (i := 12) (v := ?v12z4) ?hi12z4 (by kernel_rfl) (by kernel_rfl) (by kernel_rfl) ?hq12z4 (Or.inl ⟨?hw12z4, ?hy12z4⟩) (by assumption) ?hr12z4
        case hi12z4 => (simp only [List.getElem?_toArray, List.getElem?_cons_zero, List.getElem?_cons_succ]; exact rfl)
        case hq12z4 => exact fun _ _ _ h => h
        case hw12z4 => rfl
        case hy12z4 =>
          intro wz hz
          (try dsimp only at hz)
          go_simp
          all_goals with_reducible rfl
        try simp only [Act.put, List.setIfInBounds_toArray, List.set_cons_zero, List.set_cons_succ]
        refine' wpAnyH_take (i := 13) (v := ?v13z4) ?hi13z4 (by kernel_rfl) (by kernel_rfl) (by kernel_rfl) ?hq13z4 (Or.inl ⟨?hw13z4, ?hy13z4⟩) (by assumption) ?hr13z4
        case hi13z4 => (simp only [List.getElem?_toArray, List.getElem?_cons_zero, List.getElem?_cons_succ]; exact rfl)
        case hq13z4 => exact fun _ _ _ h => h
        case hw13z4 => rfl
        case hy13z4 =>
          intro wz hz
          (try dsimp only at hz)
          go_simp
          all_goals with_reducible rfl
        try simp only [Act.put, List.setIfInBounds_toArray, List.set_cons_zero, List.set_cons_succ]
        refine' wpAnyH_take (i := 14) (v := ?v14z4) ?hi14z4 (by kernel_rfl) (by kernel_rfl) (by kernel_rfl) ?hq14z4 (Or.inl ⟨?hw14z4, ?hy14z4⟩) (by assumption) ?hr14z4
        case hi14z4 => (simp only [List.getElem?_toArray, List.getElem?_cons_zero, List.getElem?_cons_succ]; exact rfl)
        case hq14z4 => exact fun _ _ _ h => h
        case hw14z4 => rfl
        case hy14z4 =>
          intro wz hz
          (try dsimp only at hz)
          go_simp
          all_goals with_reducible rfl
        try simp only [Act.put, List.setIfInBounds_toArray, List.set_cons_zero, List.set_cons_succ]
        refine' wpAnyH_take (i := 15) (v := ?v15z4) ?hi15z4 (by kernel_rfl) (by kernel_rfl) (by kernel_rfl) ?hq15z4 (Or.inl ⟨?hw15z4, ?hy15z4⟩) (by assumption) ?hr15z4
        case hi15z4 => (simp only [List.getElem?_toArray, List.getElem?_cons_zero, List.getElem?_cons_succ]; exact rfl)
        case hq15z4 => exact fun _ _ _ h => h
        case hw15z4 => rfl
        case hy15z4 =>
          intro wz hz
          (try dsimp only at hz)
          go_simp
          all_goals with_reducible rfl
        try simp only [Act.put, List.setIfInBounds_toArray, List.set_cons_zero, List.set_cons_succ]
        refine' wpAnyH_take (i := 16) (v := ?v16z4) ?hi16z4 (by kernel_rfl) (by kernel_rfl) (by kernel_rfl) ?hq16z4 (Or.inl ⟨?hw16z4, ?hy16z4⟩) (by assumption) ?hr16z4
        case hi16z4 => (simp only [List.getElem?_toArray, List.getElem?_cons_zero, List.getElem?_cons_succ]; exact rfl)
        case hq16z4 => exact fun _ _ _ h => h
        case hw16z4 => rfl
        case hy16z4 =>
          intro wz hz
          (try dsimp only at hz)
          go_simp
          all_goals with_reducible rfl
        try simp only [Act.put, List.setIfInBounds_toArray, List.set_cons_zero, List.set_cons_succ]
        refine' wpAnyH_take (i := 17) (v := ?v17z4) ?hi17z4 (by kernel_rfl) (by kernel_rfl) (by kernel_rfl) ?hq17z4 (Or.inl ⟨?hw17z4, ?hy17z4⟩) (by assumption) ?hr17z4
        case hi17z4 => (simp only [List.getElem?_toArray, List.getElem?_cons_zero, List.getElem?_cons_succ]; exact rfl)
        case hq17z4 => exact fun _ _ _ h => h
        case hw17z4 => rfl
        case hy17z4 =>
          intro wz hz
          (try dsimp only at hz)
          go_simp
          all_goals with_reducible rfl
        try simp only [Act.put, List.setIfInBounds_toArray, List.set_cons_zero, List.set_cons_succ]
        refine' wpAnyH_take (i := 18) (v := ?v18z4) ?hi18z4 (by kernel_rfl) (by kernel_rfl) (by kernel_rfl) ?hq18z4 (Or.inl ⟨?hw18z4, ?hy18z4⟩) (by assumption) ?hr18z4
        case hi18z4 => (simp only [List.getElem?_toArray, List.getElem?_cons_zero, List.getElem?_cons_succ]; exact rfl)
        case hq18z4 => exact fun _ _ _ h => h
        case hw18z4 => rfl
        case hy18z4 =>
          intro wz hz
          (try dsimp only at hz)
          go_simp
          all_goals with_reducible rfl
        try simp only [Act.put, List.setIfInBounds_toArray, List.set_cons_zero, List.set_cons_succ]
        refine' wpAnyH_take (i := 19) (v := ?v19z4) ?hi19z4 (by kernel_rfl) (by kernel_rfl) (by kernel_rfl) ?hq19z4 (Or.inl ⟨?hw19z4, ?hy19z4⟩) (by assumption) ?hr19z4
        case hi19z4 => (simp only [List.getElem?_toArray, List.getElem?_cons_zero, List.getElem?_cons_succ]; exact rfl)
        case hq19z4 => exact fun _ _ _ h => h
        case hw19z4 => rfl
        case hy19z4 =>
          intro wz hz
          (try dsimp only at hz)
          go_simp
          all_goals with_reducible rfl
        try simp only [Act.put, List.setIfInBounds_toArray, List.set_cons_zero, List.set_cons_succ]
        refine' wpAnyH_take (i := 20) (v := ?v20z4) ?hi20z4 (by kernel_rfl) (by kernel_rfl) (by kernel_rfl) ?hq20z4 (Or.inl ⟨?hw20z4, ?hy20z4⟩) (by assumption) ?hr20z4
        case hi20z4 => (simp only [List.getElem?_toArray, List.getElem?_cons_zero, List.getElem?_cons_succ]; exact rfl)
        case hq20z4 => exact fun _ _ _ h => h
        case hw20z4 => rfl
        case hy20z4 =>
          intro wz hz
          (try dsimp only at hz)
          go_simp
          all_goals with_reducible rfl
        try simp only [Act.put, List.setIfInBounds_toArray, List.set_cons_zero, List.set_cons_succ]
        refine' wpAnyH_take (i := 21) (v := ?v21z4) ?hi21z4 (by kernel_rfl) (by kernel_rfl) (by kernel_rfl) ?hq21z4 (Or.inl ⟨?hw21z4, ?hy21z4⟩) (by assumption) ?hr21z4
        case hi21z4 => (simp only [List.getElem?_toArray, List.getElem?_cons_zero, List.getElem?_cons_succ]; exact rfl)
        case hq21z4 => exact fun _ _ _ h => h
        case hw21z4 => rfl
        case hy21z4 =>
          intro wz hz
          (try dsimp only at hz)
          go_simp
          all_goals with_reducible rfl
        try simp only [Act.put, List.setIfInBounds_toArray, List.set_cons_zero, List.set_cons_succ]
        refine' wpAnyH_take (i := 22) (v := ?v22z4) ?hi22z4 (by kernel_rfl) (by kernel_rfl) (by kernel_rfl) ?hq22z4 (Or.inl ⟨?hw22z4, ?hy22z4⟩) (by assumption) ?hr22z4
        case hi22z4 => (simp only [List.getElem?_toArray, List.getElem?_cons_zero, List.getElem?_cons_succ]; exact rfl)
        case hq22z4 => exact fun _ _ _ h => h
        case hw22z4 => rfl
        case hy22z4 =>
          intro wz hz
          (try dsimp only at hz)
          go_simp
          all_goals with_reducible rfl
        try simp only [Act.put, List.setIfInBounds_toArray, List.set_cons_zero, List.set_cons_succ]
        refine' wpAnyH_take (i := 23) (v := ?v23z4) ?hi23z4 (by kernel_rfl) (by kernel_rfl) (by kernel_rfl) ?hq23z4 (Or.inl ⟨?hw23z4, ?hy23z4⟩) (by assumption) ?hr23z4
        case hi23z4 => (simp only [List.getElem?_toArray, List.getElem?_cons_zero, List.getElem?_cons_succ]; exact rfl)
        case hq23z4 => exact fun _ _ _ h => h
        case hw23z4 => rfl
        case hy23z4 =>
          intro wz hz
          (try dsimp only at hz)
          go_simp
          all_goals with_reducible rfl
        try simp only [Act.put, List.setIfInBounds_toArray, List.set_cons_zero, List.set_cons_succ]
        refine' wpAnyH_take (i := 24) (v := ?v24z4) ?hi24z4 (by kernel_rfl) (by kernel_rfl) (by kernel_rfl) ?hq24z4 (Or.inl ⟨?hw24z4, ?hy24z4⟩) (by assumption) ?hr24z4
        case hi24z4 => (simp only [List.getElem?_toArray, List.getElem?_cons_zero, List.getElem?_cons_succ]; exact rfl)
        case hq24z4 => exact fun _ _ _ h => h
        case hw24z4 => rfl
        case hy24z4 =>
          intro wz hz
          (try dsimp only at hz)
          go_simp
          all_goals with_reducible rfl
        try simp only [Act.put, List.setIfInBounds_toArray, List.set_cons_zero, List.set_cons_succ]
        refine' wpAnyH_take (i := 25) (v := ?v25z4) ?hi25z4 (by kernel_rfl) (by kernel_rfl) (by kernel_rfl) ?hq25z4 (Or.inl ⟨?hw25z4, ?hy25z4⟩) (by assumption) ?hr25z4
        case hi25z4 => (simp only [List.getElem?_toArray, List.getElem?_cons_zero, List.getElem?_cons_succ]; exact rfl)
        case hq25z4 => exact fun _ _ _ h => h
        case hw25z4 => rfl
        case hy25z4 =>
          intro wz hz
          (try dsimp only at hz)
          go_simp
          all_goals with_reducible rfl
        try simp only [Act.put, List.setIfInBounds_toArray, List.set_cons_zero, List.set_cons_succ]
        refine' wpAnyH_take (i := 26) (v := ?v26z4) ?hi26z4 (by kernel_rfl) (by kernel_rfl) (by kernel_rfl) ?hq26z4 (Or.inl ⟨?hw26z4, ?hy26z4⟩) (by assumption) ?hr26z4
        case hi26z4 => (simp only [List.getElem?_toArray, List.getElem?_cons_zero, List.getElem?_cons_succ]; exact rfl)
        case hq26z4 => exact fun _ _ _ h => h
        case hw26z4 => rfl
        case hy26z4 =>
          intro wz hz
          (try dsimp only at hz)
          go_simp
          all_goals with_reducible rfl
        try simp only [Act.put, List.setIfInBounds_toArray, List.set_cons_zero, List.set_cons_succ]
        refine' wpAnyH_take (i := 27) (v := ?v27z4) ?hi27z4 (by kernel_rfl) (by kernel_rfl) (by kernel_rfl) ?hq27z4 (Or.inl ⟨?hw27z4, ?hy27z4⟩) (by assumption) ?hr27z4
        case hi27z4 => (simp only [List.getElem?_toArray, List.getElem?_cons_zero, List.getElem?_cons_succ]; exact rfl)
        case hq27z4 => exact fun _ _ _ h => h
        case hw27z4 => rfl
        case hy27z4 =>
          intro wz hz
          (try dsimp only at hz)
          go_simp
          all_goals with_reducible rfl
        try simp only [Act.put, List.setIfInBounds_toArray, List.set_cons_zero, List.set_cons_succ]
        refine' wpAnyH_take (i := 28) (v := ?v28z4) ?hi28z4 (by kernel_rfl) (by kernel_rfl) (by kernel_rfl) ?hq28z4 (Or.inl ⟨?hw28z4, ?hy28z4⟩) (by assumption) ?hr28z4
        case hi28z4 => (simp only [List.getElem?_toArray, List.getElem?_cons_zero, List.getElem?_cons_succ]; exact rfl)
        case hq28z4 => exact fun _ _ _ h => h
        case hw28z4 => rfl
        case hy28z4 =>
          intro wz hz
          (try dsimp only at hz)
          go_simp
          all_goals with_reducible rfl
        try simp only [Act.put, List.setIfInBounds_toArray, List.set_cons_zero, List.set_cons_succ]
        refine' wpAnyH_take (i := 29) (v := ?v29z4) ?hi29z4 (by kernel_rfl) (by kernel_rfl) (by kernel_rfl) ?hq29z4 (Or.inl ⟨?hw29z4, ?hy29z4⟩) (by assumption) ?hr29z4
        case hi29z4 => (simp only [List.getElem?_toArray, List.getElem?_cons_zero, List.getElem?_cons_succ]; exact rfl)
        case hq29z4 => exact fun _ _ _ h => h
        case hw29z4 => rfl
        case hy29z4 =>
          intro wz hz
          (try dsimp only at hz)
          go_simp
          all_goals with_reducible rfl
        try simp only [Act.put, List.setIfInBounds_toArray, List.set_cons_zero, List.set_cons_succ]
        refine' wpAnyH_take (i := 30) (v := ?v30z4) ?hi30z4 (by kernel_rfl) (by kernel_rfl) (by kernel_rfl) ?hq30z4 (Or.inl ⟨?hw30z4, ?hy30z4⟩) (by assumption) ?hr30z4
        case hi30z4 => (simp only [List.getElem?_toArray, List.getElem?_cons_zero, List.getElem?_cons_succ]; exact rfl)
        case hq30z4 => exact fun _ _ _ h => h
        case hw30z4 => rfl
        case hy30z4 =>
          intro wz hz
          (try dsimp only at hz)
          go_simp
          all_goals with_reducible rfl
        try simp only [Act.put, List.setIfInBounds_toArray, List.set_cons_zero, List.set_cons_succ]
        refine' wpAnyH_take (i := 31) (v := ?v31z4) ?hi31z4 (by kernel_rfl) (by kernel_rfl) (by kernel_rfl) ?hq31z4 (Or.inl ⟨?hw31z4, ?hy31z4⟩) (by assumption) ?hr31z4
        case hi31z4 => (simp only [List.getElem?_toArray, List.getElem?_cons_zero, List.getElem?_cons_succ]; exact rfl)
        case hq31z4 => exact fun _ _ _ h => h
        case hw31z4 => rfl
        case hy31z4 =>
          intro wz hz
          (try dsimp only at hz)
          go_simp
          all_goals with_reducible rfl
        try simp only [Act.put, List.setIfInBounds_toArray, List.set_cons_zero, List.set_cons_succ]
        refine' wpAnyH_take (i := 32) (v := ?v32z4) ?hi32z4 (by kernel_rfl) (by kernel_rfl) (by kernel_rfl) ?hq32z4 (Or.inl ⟨?hw32z4, ?hy32z4⟩) (by assumption) ?hr32z4
        case hi32z4 => (simp only [List.getElem?_toArray, List.getElem?_cons_zero, List.getElem?_cons_succ]; exact rfl)
        case hq32z4 => exact fun _ _ _ h => h
        case hw32z4 => rfl
        case hy32z4 =>
          intro wz hz
          (try dsimp only at hz)
          go_simp
          all_goals with_reducible rfl
        try simp only [Act.put, List.setIfInBounds_toArray, List.set_cons_zero, List.set_cons_succ]
        refine' wpAnyH_take (i := 33) (v := ?v33z4) ?hi33z4 (by kernel_rfl) (by kernel_rfl) (by kernel_rfl) ?hq33z4 (Or.inl ⟨?hw33z4, ?hy33z4⟩) (by assumption) ?hr33z4
        case hi33z4 => (simp only [List.getElem?_toArray, List.getElem?_cons_zero, List.getElem?_cons_succ]; exact rfl)
        case hq33z4 => exact fun _ _ _ h => h
        case hw33z4 => rfl
        case hy33z4 =>
          intro wz hz
          (try dsimp only at hz)
          go_simp
          all_goals with_reducible rfl
        try simp only [Act.put, List.setIfInBounds_toArray, List.set_cons_zero, List.set_cons_succ]
        refine' wpAnyH_take (i := 34) (v := ?v34z4) ?hi34z4 (by kernel_rfl) (by kernel_rfl) (by kernel_rfl) ?hq34z4 (Or.inl ⟨?hw34z4, ?hy34z4⟩) (by assumption) ?hr34z4
        case hi34z4 => (simp only [List.getElem?_toArray, List.getElem?_cons_zero, List.getElem?_cons_succ]; exact rfl)
        case hq34z4 => exact fun _ _ _ h => h
        case hw34z4 => rfl
        case hy34z4 =>
          intro wz hz
          (try dsimp only at hz)
          go_simp
          all_goals with_reducible rfl
        try simp only [Act.put, List.setIfInBounds_toArray, List.set_cons_zero, List.set_cons_succ]
        refine' wpAnyH_take (i := 35) (v := ?v35z4) ?hi35z4 (by kernel_rfl) (by kernel_rfl) (by kernel_rfl) ?hq35z4 (Or.inl ⟨?hw35z4, ?hy35z4⟩) (by assumption) ?hr35z4
        case hi35z4 => (simp only [List.getElem?_toArray, List.getElem?_cons_zero, List.getElem?_cons_succ]; exact rfl)
        case hq35z4 => exact fun _ _ _ h => h
        case hw35z4 => rfl
        case hy35z4 =>
          intro wz hz
          (try dsimp only at hz)
          go_simp
          all_goals with_reducible rfl
        try simp only [Act.put, List.setIfInBounds_toArray, List.set_cons_zero, List.set_cons_succ]
        refine' wpAnyH_take (i := 36) (v := ?v36z4) ?hi36z4 (by kernel_rfl) (by kernel_rfl) (by kernel_rfl) ?hq36z4 (Or.inl ⟨?hw36z4, ?hy36z4⟩) (by assumption) ?hr36z4
        case hi36z4 => (simp only [List.getElem?_toArray, List.getElem?_cons_zero, List.getElem?_cons_succ]; exact rfl)
        case hq36z4 => exact fun _ _ _ h => h
        case hw36z4 => rfl
        case hy36z4 =>
          intro wz hz
          (try dsimp only at hz)
          go_simp
          all_goals with_reducible rfl
        try simp only [Act.put, List.setIfInBounds_toArray, List.set_cons_zero, List.set_cons_succ]
        refine' wpAnyH_take (i := 37) (v := ?v37z4) ?hi37z4 (by kernel_rfl) (by kernel_rfl) (by kernel_rfl) ?hq37z4 (Or.inl ⟨?hw37z4, ?hy37z4⟩) (by assumption) ?hr37z4
        case hi37z4 => (simp only [List.getElem?_toArray, List.getElem?_cons_zero, List.getElem?_cons_succ]; exact rfl)
        case hq37z4 => exact fun _ _ _ h => h
        case hw37z4 => rfl
        case hy37z4 =>
          intro wz hz
          (try dsimp only at hz)
          go_simp
          all_goals with_reducible rfl
        try simp only [Act.put, List.setIfInBounds_toArray, List.set_cons_zero, List.set_cons_succ]
        refine wpAnyH_done (by kernel_rfl) ?_ _
        have hS2 := Lib.hid (hcl.out _ (Below.refl wr.heap.size wr).drew).2
        have hS3 := Lib.hid (hcl.out _ ((Below.refl wr.heap.size wr).drew).drew).2
        have hS6 := Lib.hid (hcl.out _ (((Below.refl wr.heap.size wr).alloc (Nat.le_refl _) (.cells #[.int .i64 0, .int .i64 0, .int .i64 0] 23)).drew).drew).2
        have hS7 := Lib.hid (hcl.out _ ((Below.refl wr.heap.size wr).alloc (Nat.le_refl _) (.cells #[.int .i64 0, .int .i64 0, .int .i64 0] 23)).drew).2
        have hf2 : Hid (∀ W, (W.cell? ⟨w4.heap.size, 0, none⟩ = some (.int .i64 b) ∧ W.cell? ⟨w4.heap.size, 1, none⟩ = some (.int .i64 4) ∧ W.cell? ⟨w4.heap.size, 2, none⟩ = some (.int .i64 (b + o)) ∧ W.cell? ⟨g1, 4, none⟩ = some (.int .i64 (b + o)) ∧ Below wr.heap.size wr W) → Calls Try.prog 8 #[turnV b 4 (b + o), .int .i64 (b + o)] W fun e w' => e = .returned (.tuple #[turnV x0 x1 x2, .bool true, .int .i64 0]) ∧ (w'.cell? ⟨w4.heap.size, 0, none⟩ = some (.int .i64 b) ∧ w'.cell? ⟨w4.heap.size, 1, none⟩ = some (.int .i64 4) ∧ w'.cell? ⟨w4.heap.size, 2, none⟩ = some (.int .i64 (b + o)) ∧ w'.cell? ⟨g1, 4, none⟩ = some (.int .i64 (b + o)) ∧ Below wr.heap.size wr w') ∧ Below W.heap.size W w') := Lib.hid fun W hW => by
          refine (hf.out W).mono fun e w' ⟨h1, h2⟩ => ⟨h1, (hcl.out _ ?_).2, h2⟩
          exact hW.2.2.2.2.trans (h2.mono hW.2.2.2.2.size)
        have hal : Hid (∀ W ob, (W.cell? ⟨w4.heap.size, 0, none⟩ = some (.int .i64 b) ∧ W.cell? ⟨w4.heap.size, 1, none⟩ = some (.int .i64 4) ∧ W.cell? ⟨w4.heap.size, 2, none⟩ = some (.int .i64 (b + o)) ∧ W.cell? ⟨g1, 4, none⟩ = some (.int .i64 (b + o)) ∧ Below wr.heap.size wr W) → ((W.alloc ob).cell? ⟨w4.heap.size, 0, none⟩ = some (.int .i64 b) ∧ (W.alloc ob).cell? ⟨w4.heap.size, 1, none⟩ = some (.int .i64 4) ∧ (W.alloc ob).cell? ⟨w4.heap.size, 2, none⟩ = some (.int .i64 (b + o)) ∧ (W.alloc ob).cell? ⟨g1, 4, none⟩ = some (.int .i64 (b + o)) ∧ Below wr.heap.size wr (W.alloc ob))) := Lib.hid fun W ob hW => (hcl.out _ (hW.2.2.2.2.alloc hW.2.2.2.2.size ob)).2
        have hst : Hid (∀ W (nb : Nat) (y0 y1 y2 : Int), wr.heap.size ≤ nb → (W.cell? ⟨w4.heap.size, 0, none⟩ = some (.int .i64 b) ∧ W.cell? ⟨w4.heap.size, 1, none⟩ = some (.int .i64 4) ∧ W.cell? ⟨w4.heap.size, 2, none⟩ = some (.int .i64 (b + o)) ∧ W.cell? ⟨g1, 4, none⟩ = some (.int .i64 (b + o)) ∧ Below wr.heap.size wr W) → ((putT3 W nb y0 y1 y2).cell? ⟨w4.heap.size, 0, none⟩ = some (.int .i64 b) ∧ (putT3 W nb y0 y1 y2).cell? ⟨w4.heap.size, 1, none⟩ = some (.int .i64 4) ∧ (putT3 W nb y0 y1 y2).cell? ⟨w4.heap.size, 2, none⟩ = some (.int .i64 (b + o)) ∧ (putT3 W nb y0 y1 y2).cell? ⟨g1, 4, none⟩ = some (.int .i64 (b + o)) ∧ Below wr.heap.size wr (putT3 W nb y0 y1 y2))) := Lib.hid fun W nb y0 y1 y2 hnb hW => (hcl.out _ (putT3_below hW.2.2.2.2 hnb y0 y1 y2)).2
        unfold putT3 at hst
        clear hS0 hS1 hf hcl
        go_wp2_with fail
        refine wp_region_held_drew (S := (fun W => W.cell? ⟨w4.heap.size, 0, none⟩ = some (.int .i64 b) ∧ W.cell? ⟨w4.heap.size, 1, none⟩ = some (.int .i64 4) ∧ W.cell? ⟨w4.heap.size, 2, none⟩ = some (.int .i64 (b + o)) ∧ W.cell? ⟨g1, 4, none⟩ = some (.int .i64 (b + o)) ∧ Below wr.heap.size wr W)) (by kernel_rfl) (by first | assumption | exact hS2.out | exact hS3.out) (fun hHeld => ?_)
        refine' wpAnyH_take (i := 0) (v := ?v0y4) ?hi0y4 (by kernel_rfl) (by kernel_rfl) (by kernel_rfl) ?hq0y4 (Or.inl ⟨?hw0y4, ?hy0y4⟩) (by assumption) ?hr0y4
        case hi0y4 => (simp only [List.getElem?_toArray, List.getElem?_cons_zero]; exact rfl)
        case hq0y4 => exact fun _ _ _ h => h
        case hw0y4 => rfl
        case hy0y4 =>
          intro wz hz
          (try dsimp only at hz)
          go_simp
          all_goals with_reducible rfl
        try simp only [Act.put, List.setIfInBounds_toArray, List.set_cons_zero, List.set_cons_succ]
        refine' wpAnyH_take (i := 1) (v := ?v1y4) ?hi1y4 (by kernel_rfl) (by kernel_rfl) (by kernel_rfl) ?hq1y4 (Or.inl ⟨?hw1y4, ?hy1y4⟩) (by assumption) ?hr1y4
        case hi1y4 => (simp only [List.getElem?_toArray, List.getElem?_cons_zero, List.getElem?_cons_succ]; exact rfl)
        case hq1y4 => exact fun _ _ _ h => h
        case hw1y4 => rfl
        case hy1y4 =>
          intro wz hz
          (try dsimp only at hz)
          go_simp
          all_goals with_reducible rfl
        try simp only [Act.put, List.setIfInBounds_toArray, List.set_cons_zero, List.set_cons_succ]
        refine' wpAnyH_take (i := 2) (v := ?v2y4) ?hi2y4 (by kernel_rfl) (by kernel_rfl) (by kernel_rfl) ?hq2y4 (Or.inl ⟨?hw2y4, ?hy2y4⟩) (by assumption) ?hr2y4
        case hi2y4 => (simp only [List.getElem?_toArray, List.getElem?_cons_zero, List.getElem?_cons_succ]; exact rfl)
        case hq2y4 => exact fun _ _ _ h => h
        case hw2y4 => rfl
        case hy2y4 =>
          intro wz hz
          (try dsimp only at hz)
          go_simp
          all_goals with_reducible rfl
        try simp only [Act.put, List.setIfInBounds_toArray, List.set_cons_zero, List.set_cons_succ]
        refine' wpAnyH_take (i := 3) (v := ?v3y4) ?hi3y4 (by kernel_rfl) (by kernel_rfl) (by kernel_rfl) ?hq3y4 (Or.inl ⟨?hw3y4, ?hy3y4⟩) (by assumption) ?hr3y4
        case hi3y4 => (simp only [List.getElem?_toArray, List.getElem?_cons_zero, List.getElem?_cons_succ]; exact rfl)
        case hq3y4 => exact fun _ _ _ h => h
        case hw3y4 => rfl
        case hy3y4 =>
          intro wz hz
          (try dsimp only at hz)
          go_simp
          all_goals with_reducible rfl
        try simp only [Act.put, List.setIfInBounds_toArray, List.set_cons_zero, List.set_cons_succ]
        refine' wpAnyH_take (i := 4) (v := ?v4y4) ?hi4y4 (by kernel_rfl) (by kernel_rfl) (by kernel_rfl) ?hq4y4 (Or.inl ⟨?hw4y4, ?hy4y4⟩) (by assumption) ?hr4y4
        case hi4y4 => (simp only [List.getElem?_toArray, List.getElem?_cons_zero, List.getElem?_cons_succ]; exact rfl)
        case hq4y4 => exact fun _ _ _ h => h
        case hw4y4 => rfl
        case hy4y4 =>
          intro wz hz
          (try dsimp only at hz)
          go_simp
          all_goals with_reducible rfl
        try simp only [Act.put, List.setIfInBounds_toArray, List.set_cons_zero, List.set_cons_succ]
        refine wpAnyH_ready (rs := [5, 10]) (by kernel_rfl) (by simp) ?_
        refine AllReadyH.cons (o := ?hoA4) ?hioA4 (fun KA hKA => ?hsA4) ?hmA4
        case hioA4 => (simp only [List.getElem?_toArray, List.getElem?_cons_zero, List.getElem?_cons_succ]; exact rfl)
        case hsA4 =>
          go_simp
          go_at_call 8
          with_reducible refine (hf2.out _ ?_).mono ?_
          · assumption
          rintro e w5 ⟨rfl, hS5, hb5⟩
          refine hKA.out _ _ hS5 (fun hHeld5 => ?_)
          try simp only [Act.put, List.setIfInBounds_toArray, List.set_cons_zero, List.set_cons_succ]
          refine' wpAnyH_take (i := 6) (v := ?v6yA4) ?hi6yA4 (by kernel_rfl) (by kernel_rfl) (by kernel_rfl) ?hq6yA4 (Or.inl ⟨?hw6yA4, ?hy6yA4⟩) (by assumption) ?hr6yA4
          case hi6yA4 => (simp only [List.getElem?_toArray, List.getElem?_cons_zero, List.getElem?_cons_succ]; exact rfl)
          case hq6yA4 => exact fun _ _ _ h => h
          case hw6yA4 => rfl
          case hy6yA4 =>
            intro wz hz
            (try dsimp only at hz)
            go_simp
            all_goals with_reducible rfl
          try simp only [Act.put, List.setIfInBounds_toArray, List.set_cons_zero, List.set_cons_succ]
          refine' wpAnyH_take (i := 7) (v := ?v7yA4) ?hi7yA4 (by kernel_rfl) (by kernel_rfl) (by kernel_rfl) ?hq7yA4 (Or.inl ⟨?hw7yA4, ?hy7yA4⟩) (by assumption) ?hr7yA4
          case hi7yA4 => (simp only [List.getElem?_toArray, List.getElem?_cons_zero, List.getElem?_cons_succ]; exact rfl)
          case hq7yA4 => exact fun _ _ _ h => h
          case hw7yA4 => rfl
          case hy7yA4 =>
            intro wz hz
            (try dsimp only at hz)
            go_simp
            all_goals with_reducible rfl
          try simp only [Act.put, List.setIfInBounds_toArray, List.set_cons_zero, List.set_cons_succ]
          refine' wpAnyH_take (i := 8) (v := ?v8yA4) ?hi8yA4 (by kernel_rfl) (by kernel_rfl) (by kernel_rfl) ?hq8yA4 (Or.inl ⟨?hw8yA4, ?hy8yA4⟩) (by assumption) ?hr8yA4
          case hi8yA4 => (simp only [List.getElem?_toArray, List.getElem?_cons_zero, List.getElem?_cons_succ]; exact rfl)
          case hq8yA4 => exact fun _ _ _ h => h
          case hw8yA4 => rfl
          case hy8yA4 =>
            intro wz hz
            (try dsimp only at hz)
            go_simp
            all_goals with_reducible rfl
          try simp only [Act.put, List.setIfInBounds_toArray, List.set_cons_zero, List.set_cons_succ]
          refine' wpAnyH_take (i := 9) (v := ?v9yA4) ?hi9yA4 (by kernel_rfl) (by kernel_rfl) (by kernel_rfl) ?hq9yA4 (Or.inl ⟨?hw9yA4, ?hy9yA4⟩) (by assumption) ?hr9yA4
          case hi9yA4 => (simp only [List.getElem?_toArray, List.getElem?_cons_zero, List.getElem?_cons_succ]; exact rfl)
          case hq9yA4 => exact fun _ _ _ h => h
          case hw9yA4 => rfl
          case hy9yA4 =>
            intro wz hz
            (try dsimp only at hz)
            go_simp
            all_goals with_reducible rfl
          try simp only [Act.put, List.setIfInBounds_toArray, List.set_cons_zero, List.set_cons_succ]
          refine wpAnyH_ready (rs := [10]) (by kernel_rfl) (by simp) ?_
          refine AllReadyH.cons (o := ?hoB4) ?hioB4 (fun KB hKB => ?hsB4) AllReadyH.nil
          case hioB4 => (simp only [List.getElem?_toArray, List.getElem?_cons_zero, List.getElem?_cons_succ]; exact rfl)
          case hsB4 =>
            go_simp
            refine hKB.out _ _ (hal.out _ _ hS5) (fun hHeldB => ?_)
            try simp only [Act.put, List.setIfInBounds_toArray, List.set_cons_zero, List.set_cons_succ]
            refine wpAnyH_ready (rs := [11]) (by kernel_rfl) (by simp) ?_
            refine AllReadyH.cons (o := ?hoC4) ?hioC4 (fun KC hKC => ?hsC4) AllReadyH.nil
            case hioC4 => (simp only [List.getElem?_toArray, List.getElem?_cons_zero, List.getElem?_cons_succ]; exact rfl)
            case hsC4 =>
              go_simp
              refine hKC.out _ _ (hal.out _ _ hS5) (fun hHeldC => ?_)
              try simp only [Act.put, List.setIfInBounds_toArray, List.set_cons_zero, List.set_cons_succ]
              refine' wpAnyH_take (i := 12) (v := ?v12yC4) ?hi12yC4 (by kernel_rfl) (by kernel_rfl) (by kernel_rfl) ?hq12yC4 (Or.inl ⟨?hw12yC4, ?hy12yC4⟩) (by assumption) ?hr12yC4
              case hi12yC4 => (simp only [List.getElem?_toArray, List.getElem?_cons_zero, List.getElem?_cons_succ]; exact rfl)
              case hq12yC4 => exact fun _ _ _ h => h
              case hw12yC4 => rfl
              case hy12yC4 =>
                intro wz hz
                (try dsimp only at hz)
                go_simp
                all_goals with_reducible rfl
              try simp only [Act.put, List.setIfInBounds_toArray, List.set_cons_zero, List.set_cons_succ]
              refine' wpAnyH_take (i := 13) (v := ?v13yC4) ?hi13yC4 (by kernel_rfl) (by kernel_rfl) (by kernel_rfl) ?hq13yC4 (Or.inl ⟨?hw13yC4, ?hy13yC4⟩) (by assumption) ?hr13yC4
              case hi13yC4 => (simp only [List.getElem?_toArray, List.getElem?_cons_zero, List.getElem?_cons_succ]; exact rfl)
              case hq13yC4 => exact fun _ _ _ h => h
              case hw13yC4 => rfl
              case hy13yC4 =>
                intro wz hz
                (try dsimp only at hz)
                go_simp
                all_goals with_reducible rfl
              try simp only [Act.put, List.setIfInBounds_toArray, List.set_cons_zero, List.set_cons_succ]
              refine wpAnyH_done (by kernel_rfl) ?_ _
              have hbW := hS5.2.2.2.2.alloc hS5.2.2.2.2.size (.cells #[.int .i64 x0, .int .i64 x1, .int .i64 x2] 23)
              have t6 := HT.out.below hbW
              have u6 := turn_new w5 x0 x1 x2
              have hne : w5.heap.size ≠ w4.heap.size := by have := HT.out.lt; have := hS5.2.2.2.2.size; omega
              obtain ⟨p0, p1, p2, r0, r1, r2⟩ := t6.cells
              obtain ⟨u0, u1, u2, _⟩ := u6.cells
              have Fin := Lib.hid (plans_next hk2.out.1 hk2.out.2.1 HT.out hk2.out.2.2.2.1 hk2.out.2.2.2.2 hbW x0 x1 x2)
              unfold putT3 at Fin
              (try unfold putT3 at u0 u1 u2)
              (try unfold putT3 at p0 p1 p2 r0 r1 r2)
              go_wp2
              go_roundw
              case rel => exact ⟨5, by omega, by go_num, Lib.hid ⟨Fin.out.1, Fin.out.2.1, ⟨_, _, _, Fin.out.2.2.1, fun h => by omega⟩, Fin.out.2.2.2, hk2.out.2.2.2.2⟩⟩
              case measure => simp [intOf]
        case hmA4 =>
          refine AllReadyH.cons (o := ?hoD4) ?hioD4 (fun KD hKD => ?hsD4) AllReadyH.nil
          case hioD4 => (simp only [List.getElem?_toArray, List.getElem?_cons_zero, List.getElem?_cons_succ]; exact rfl)
          case hsD4 =>
            go_simp
            refine hKD.out _ _ (by first | exact hS6.out | exact hS7.out | exact hal.out _ _ (by assumption)) (fun hHeldD => ?_)
            try simp only [Act.put, List.setIfInBounds_toArray, List.set_cons_zero, List.set_cons_succ]
            refine wpAnyH_ready (rs := [5]) (by kernel_rfl) (by simp) ?_
            refine AllReadyH.cons (o := ?hoE4) ?hioE4 (fun KE hKE => ?hsE4) AllReadyH.nil
            case hioE4 => (simp only [List.getElem?_toArray, List.getElem?_cons_zero, List.getElem?_cons_succ]; exact rfl)
            case hsE4 =>
              go_simp
              go_at_call 8
              with_reducible refine (hf2.out _ ?_).mono ?_
              · assumption
              rintro e w5 ⟨rfl, hS5, hb5⟩
              have nb5 : TurnAt w5 wr.heap.size 0 0 0 := (hb5.block wr.heap.size (by simp)).trans (by first | exact turn_new wr 0 0 0 | exact turn_new wr.drew 0 0 0)
              obtain ⟨ka0, ka1, ka2, qa0, qa1, qa2⟩ := nb5.cells
              have hnb := Lib.hid nb5
              clear nb5
              refine hKE.out _ _ hS5 (fun hHeldE => ?_)
              try simp only [Act.put, List.setIfInBounds_toArray, List.set_cons_zero, List.set_cons_succ]
              refine' wpAnyH_take (i := 6) (v := ?v6yE4) ?hi6yE4 (by kernel_rfl) (by kernel_rfl) (by kernel_rfl) ?hq6yE4 (Or.inl ⟨?hw6yE4, ?hy6yE4⟩) (by assumption) ?hr6yE4
              case hi6yE4 => (simp only [List.getElem?_toArray, List.getElem?_cons_zero, List.getElem?_cons_succ]; exact rfl)
              case hq6yE4 => exact fun _ _ _ h => h
              case hw6yE4 => rfl
              case hy6yE4 =>
                intro wz hz
                (try dsimp only at hz)
                go_simp
                all_goals with_reducible rfl
              try simp only [Act.put, List.setIfInBounds_toArray, List.set_cons_zero, List.set_cons_succ]
              refine' wpAnyH_take (i := 7) (v := ?v7yE4) ?hi7yE4 (by kernel_rfl) (by kernel_rfl) (by kernel_rfl) ?hq7yE4 (Or.inl ⟨?hw7yE4, ?hy7yE4⟩) (by assumption) ?hr7yE4
              case hi7yE4 => (simp only [List.getElem?_toArray, List.getElem?_cons_zero, List.getElem?_cons_succ]; exact rfl)
              case hq7yE4 => exact fun _ _ _ h => h
              case hw7yE4 => rfl
              case hy7yE4 =>
                intro wz hz
                (try dsimp only at hz)
                go_simp
                all_goals with_reducible rfl
              try simp only [Act.put, List.setIfInBounds_toArray, List.set_cons_zero, List.set_cons_succ]
              refine' wpAnyH_take (i := 8) (v := ?v8yE4) ?hi8yE4 (by kernel_rfl) (by kernel_rfl) (by kernel_rfl) ?hq8yE4 (Or.inl ⟨?hw8yE4, ?hy8yE4⟩) (by assumption) ?hr8yE4
              case hi8yE4 => (simp only [List.getElem?_toArray, List.getElem?_cons_zero, List.getElem?_cons_succ]; exact rfl)
              case hq8yE4 => exact fun _ _ _ h => h
              case hw8yE4 => rfl
              case hy8yE4 =>
                intro wz hz
                (try dsimp only at hz)
                go_simp
                all_goals with_reducible rfl
              try simp only [Act.put, List.setIfInBounds_toArray, List.set_cons_zero, List.set_cons_succ]
              refine' wpAnyH_take (i := 9) (v := ?v9yE4) ?hi9yE4 (by kernel_rfl) (by kernel_rfl) (by kernel_rfl) ?hq9yE4 (Or.inl ⟨?hw9yE4, ?hy9yE4⟩) (by assumption) ?hr9yE4
              case hi9yE4 => (simp only [List.getElem?_toArray, List.getElem?_cons_zero, List.getElem?_cons_succ]; exact rfl)
              case hq9yE4 => exact fun _ _ _ h => h
              case hw9yE4 => rfl
              case hy9yE4 =>
                intro wz hz
                (try dsimp only at hz)
                go_simp
                all_goals with_reducible rfl
              try simp only [Act.put, List.setIfInBounds_toArray, List.set_cons_zero, List.set_cons_succ]
              refine wpAnyH_ready (rs := [11]) (by kernel_rfl) (by simp) ?_
              refine AllReadyH.cons (o := ?hoF4) ?hioF4 (fun KF hKF => ?hsF4) AllReadyH.nil
              case hioF4 => (simp only [List.getElem?_toArray, List.getElem?_cons_zero, List.getElem?_cons_succ]; exact rfl)
              case hsF4 =>
                go_simp
                refine hKF.out _ _ (hst.out _ _ _ _ _ (Nat.le_refl _) hS5) (fun hHeldF => ?_)
                try simp only [Act.put, List.setIfInBounds_toArray, List.set_cons_zero, List.set_cons_succ]
                refine' wpAnyH_take (i := 12) (v := ?v12yF4) ?hi12yF4 (by kernel_rfl) (by kernel_rfl) (by kernel_rfl) ?hq12yF4 (Or.inl ⟨?hw12yF4, ?hy12yF4⟩) (by assumption) ?hr12yF4
                case hi12yF4 => (simp only [List.getElem?_toArray, List.getElem?_cons_zero, List.getElem?_cons_succ]; exact rfl)
                case hq12yF4 => exact fun _ _ _ h => h
                case hw12yF4 => rfl
                case hy12yF4 =>
                  intro wz hz
                  (try dsimp only at hz)
                  go_simp
                  all_goals with_reducible rfl
                try simp only [Act.put, List.setIfInBounds_toArray, List.set_cons_zero, List.set_cons_succ]
                refine' wpAnyH_take (i := 13) (v := ?v13yF4) ?hi13yF4 (by kernel_rfl) (by kernel_rfl) (by kernel_rfl) ?hq13yF4 (Or.inl ⟨?hw13yF4, ?hy13yF4⟩) (by assumption) ?hr13yF4
                case hi13yF4 => (simp only [List.getElem?_toArray, List.getElem?_cons_zero, List.getElem?_cons_succ]; exact rfl)
                case hq13yF4 => exact fun _ _ _ h => h
                case hw13yF4 => rfl
                case hy13yF4 =>
                  intro wz hz
                  (try dsimp only at hz)
                  go_simp
                  all_goals with_reducible rfl
                try simp only [Act.put, List.setIfInBounds_toArray, List.set_cons_zero, List.set_cons_succ]
                refine wpAnyH_done (by kernel_rfl) ?_ _
                have hbW := putT3_below hS5.2.2.2.2 (Nat.le_refl wr.heap.size) x0 x1 x2
                have t6 := HT.out.below hbW
                have u6 := hnb.out.put x0 x1 x2
                have hne : wr.heap.size ≠ w4.heap.size := by have := HT.out.lt; omega
                obtain ⟨p0, p1, p2, r0, r1, r2⟩ := t6.cells
                obtain ⟨u0, u1, u2, _⟩ := u6.cells
                have Fin := Lib.hid (plans_next hk2.out.1 hk2.out.2.1 HT.out hk2.out.2.2.2.1 hk2.out.2.2.2.2 hbW x0 x1 x2)
                unfold putT3 at Fin
                (try unfold putT3 at u0 u1 u2)
                (try unfold putT3 at p0 p1 p2 r0 r1 r2)
                go_wp2
                go_roundw
                case rel => exact ⟨5, by omega, by go_num, Lib.hid ⟨Fin.out.1, Fin.out.2.1, ⟨_, _, _, Fin.out.2.2.1, fun h => by omega⟩, Fin.out.2.2.2, hk2.out.2.2.2.2⟩⟩
                case measure => simp [intOf]
    · obtain rfl : i = 5 := by omega
      have Fin := Lib.hid hk.out.2.2.2.1
      clear hk
      go_wp2
      go_ret
      exact ⟨rfl, Fin.out⟩
end Go.Proofs.Ytnggjoleiapboaa
