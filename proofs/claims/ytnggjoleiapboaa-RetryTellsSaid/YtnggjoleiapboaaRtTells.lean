/-
  RetryTells returns true, for any turn and any time: the walk.
-/
import Derived.Test.YtnggjoleiapboaaAwake15
import Derived.Deep.RegionHeld3
import Derived.Deep.RegionWith
namespace Go.Proofs.Ytnggjoleiapboaa
open Go.RowKit Go.Maps

theorem r15plan_row (now : Int) (w : World) : Calls Try.prog 12 #[.int .i64 now] w fun r w' => ∃ ao cap, r = .returned (.slice ao (planT now).length cap) ∧ TimesOwn w' w.heap.size (.slice ao (planT now).length cap) (planT now) ∧ Below w.heap.size w w' := (r15plan_any now w).mono fun r w' ⟨v, h1, h2, h3⟩ => by
  obtain ⟨ao, cap, rfl⟩ := row_slice h2
  exact ⟨ao, cap, h1, h2, h3⟩

set_option maxRecDepth 100000 in
set_option maxHeartbeats 8000000 in
theorem rtells_walk (b t d now : Int) (w : World) : Calls Try.prog 3 #[turnV b t d, .int .i64 now] w fun e w' => e = .returned (.bool true) ∧ Below w.heap.size w w' := by
  obtain ⟨w1, hw1⟩ : ∃ w1, w.alloc (.cells #[.int .i64 b, .int .i64 t, .int .i64 d] 23) = w1 := ⟨_, rfl⟩
  have t1 : TurnAt w1 w.heap.size b t d := by rw [← hw1]; exact turn_new w _ _ _
  have b1 : Below w.heap.size w w1 := by rw [← hw1]; exact (Below.refl _ _).alloc (Nat.le_refl _) _
  have ha := awake15_any w1
  obtain ⟨F, hF⟩ : ∃ F, failT b t d now = F := ⟨_, rfl⟩
  have hf : Hid (∀ W, Calls Try.prog 8 #[turnV b t d, .int .i64 now] W fun e w' => e = .returned (.tuple #[turnV F.1.1 F.1.2.1 F.1.2.2, .bool F.2.1, .int .i64 F.2.2]) ∧ Below W.heap.size W w') := Lib.hid fun W => by rw [← hF]; exact rfailed_any b t d now W
  have hf2 : Hid (∀ W, Calls Try.prog 9 #[turnV b t d, .int .i64 now] W fun e w' => e = .returned (.tuple #[turnV F.1.1 F.1.2.1 F.1.2.2, .bool F.2.1, .int .i64 F.2.2]) ∧ Below W.heap.size W w') := Lib.hid fun W => by rw [← hF]; exact r15failed_any b t d now W
  obtain ⟨⟨f0, f1, f2⟩, fo, fe⟩ := F
  replace hf : Hid (∀ W, Calls Try.prog 8 #[turnV b t d, .int .i64 now] W fun e w' => e = .returned (.tuple #[turnV f0 f1 f2, .bool fo, .int .i64 fe]) ∧ Below W.heap.size W w') := hf
  replace hf2 : Hid (∀ W, Calls Try.prog 9 #[turnV b t d, .int .i64 now] W fun e w' => e = .returned (.tuple #[turnV f0 f1 f2, .bool fo, .int .i64 fe]) ∧ Below W.heap.size W w') := hf2
  obtain ⟨n0, n1, n2, nc, hnew, hnv⟩ : ∃ n0 n1 n2 nc : Int, Hid (∀ W, Calls Try.prog 10 #[.int .i64 now] W fun e w' => e = .returned (.tuple #[turnV n0 n1 n2, .int .i64 nc]) ∧ Below W.heap.size W w') ∧
      Hid ((0 ≤ now ∧ now ≤ 1099511627776 → n0 = now ∧ n1 = 0 ∧ n2 = now ∧ nc = 0) ∧ (¬ (0 ≤ now ∧ now ≤ 1099511627776) → n0 = 0 ∧ n1 = 0 ∧ n2 = 0 ∧ nc = 1)) := by
    cases hq : timeT now with
    | true =>
      refine ⟨now, 0, now, 0, Lib.hid fun W => newV_yes hq W, Lib.hid ⟨fun _ => ⟨rfl, rfl, rfl, rfl⟩, fun h => absurd (time_of hq) h⟩⟩
    | false =>
      refine ⟨0, 0, 0, 1, Lib.hid fun W => ?_, Lib.hid ⟨fun h => ?_, fun _ => ⟨rfl, rfl, rfl, rfl⟩⟩⟩
      · have := rnew_any now W
        rw [hq] at this
        exact this
      · unfold timeT at hq
        rw [decide_eq_true h.1, decide_eq_true h.2] at hq
        cases hq
  obtain ⟨P, hP⟩ : ∃ P, planT now = P := ⟨_, rfl⟩
  have h5 : P.length ≤ 5 := by rw [← hP]; exact plan_five now
  obtain ⟨np, hnp⟩ : ∃ np, P.length = np := ⟨_, rfl⟩
  have hp1 : Hid (∀ W, Calls Try.prog 11 #[.int .i64 now] W fun r w' => ∃ ao cap, r = .returned (.slice ao np cap) ∧ TimesOwn w' W.heap.size (.slice ao np cap) P ∧ Below W.heap.size W w') := Lib.hid fun W => by
    have := rplan_row now W
    rw [hP, hnp] at this
    exact this
  have hp2 : Hid (∀ W, Calls Try.prog 12 #[.int .i64 now] W fun r w' => ∃ ao cap, r = .returned (.slice ao np cap) ∧ TimesOwn w' W.heap.size (.slice ao np cap) P ∧ Below W.heap.size W w') := Lib.hid fun W => by
    have := r15plan_row now W
    rw [hP, hnp] at this
    exact this
  have K1 := Lib.hid (And.intro t1 b1)
  have HN := Lib.hid hnp
  rw [hnp] at h5
  clear hF hP hnp t1 b1
  go_enter Try.func3, Try.ntmps3
  go_wp2_with fail
  refine ha.mono ?_
  rintro e w2 ⟨rfl, hb⟩
  have hb2 := hb.alloc hb.size (.cells #[.int .i64 b, .int .i64 t, .int .i64 d] 25)
  have K2 := Lib.hid (And.intro (K1.out.1.below hb2) (And.intro (rturn_new w2 b t d) (K1.out.2.trans (hb2.mono K1.out.2.size))))
  have t2 := K1.out.1.below hb
  obtain ⟨c0, c1, c2, _⟩ := t2.cells
  obtain ⟨d0, d1, d2, _⟩ := K2.out.1.cells
  clear ha hb hb2 K1 t2
  go_wp2_with fail
  refine (hf.out _).mono ?_
  rintro e w3 ⟨rfl, hb⟩
  have hb3 := hb.alloc hb.size (.cells #[.int .i64 f0, .int .i64 f1, .int .i64 f2] 23)
  have K3 := Lib.hid (And.intro (K2.out.1.below hb3) (And.intro (K2.out.2.1.below hb3) (And.intro (turn_new w3 f0 f1 f2) (K2.out.2.2.trans (hb3.mono K2.out.2.2.size)))))
  clear hb hb3 K2 c0 c1 c2 d0 d1 d2
  obtain ⟨c0, c1, c2, _⟩ := K3.out.2.1.cells
  go_wp2_with fail
  refine (hf2.out _).mono ?_
  rintro e w4 ⟨rfl, hb⟩
  have hb4 := hb.alloc hb.size (.cells #[.int .i64 f0, .int .i64 f1, .int .i64 f2] 25)
  have K4 := Lib.hid (And.intro (K3.out.1.below hb4) (And.intro (K3.out.2.1.below hb4) (And.intro (K3.out.2.2.1.below hb4) (And.intro (rturn_new w4 f0 f1 f2) (K3.out.2.2.2.trans (hb4.mono K3.out.2.2.2.size))))))
  clear hb hb4 K3 c0 c1 c2
  go_wp2_with fail
  refine (hnew.out _).mono ?_
  rintro e w5 ⟨rfl, hb⟩
  have hb5 := hb.alloc hb.size (.cells #[.int .i64 n0, .int .i64 n1, .int .i64 n2] 23)
  have K5 := Lib.hid (And.intro (K4.out.1.below hb5) (And.intro (K4.out.2.1.below hb5) (And.intro (K4.out.2.2.1.below hb5) (And.intro (K4.out.2.2.2.1.below hb5) (And.intro (turn_new w5 n0 n1 n2) (K4.out.2.2.2.2.trans (hb5.mono K4.out.2.2.2.2.size)))))))
  clear hb hb5 K4
  go_wp2_with fail
  refine (hp1.out _).mono ?_
  rintro e w6 ⟨ao1, cap1, rfl, ho1, hb⟩
  have K6 := Lib.hid (And.intro (K5.out.1.below hb) (And.intro (K5.out.2.1.below hb) (And.intro (K5.out.2.2.1.below hb) (And.intro (K5.out.2.2.2.1.below hb) (And.intro (K5.out.2.2.2.2.1.below hb) (And.intro ho1 (K5.out.2.2.2.2.2.trans (hb.mono K5.out.2.2.2.2.2.size))))))))
  clear hb K5 ho1
  go_wp2_with fail
  refine (hp2.out _).mono ?_
  rintro e w7 ⟨ao2, cap2, rfl, ho2, hb⟩
  have K7 := Lib.hid (And.intro (K6.out.1.below hb) (And.intro (K6.out.2.1.below hb) (And.intro (K6.out.2.2.1.below hb) (And.intro (K6.out.2.2.2.1.below hb) (And.intro (K6.out.2.2.2.2.1.below hb) (And.intro (K6.out.2.2.2.2.2.1.below hb) (And.intro ho2 (K6.out.2.2.2.2.2.2.trans (hb.mono K6.out.2.2.2.2.2.2.size)))))))))
  clear hb K6 ho2 hp1 hp2 hf hf2 hnew
  --@region
  have hS : Hid (∀ W, Below w7.heap.size w7 W → W.cell? ⟨w.heap.size, 0, none⟩ = some (.int .i64 b) ∧ W.cell? ⟨w.heap.size, 1, none⟩ = some (.int .i64 t) ∧ W.cell? ⟨w.heap.size, 2, none⟩ = some (.int .i64 d) ∧ W.cell? ⟨w2.heap.size, 0, none⟩ = some (.int .i64 b) ∧ W.cell? ⟨w2.heap.size, 1, none⟩ = some (.int .i64 t) ∧ W.cell? ⟨w2.heap.size, 2, none⟩ = some (.int .i64 d) ∧ W.cell? ⟨w3.heap.size, 0, none⟩ = some (.int .i64 f0) ∧ W.cell? ⟨w3.heap.size, 1, none⟩ = some (.int .i64 f1) ∧ W.cell? ⟨w3.heap.size, 2, none⟩ = some (.int .i64 f2) ∧ W.cell? ⟨w4.heap.size, 0, none⟩ = some (.int .i64 f0) ∧ W.cell? ⟨w4.heap.size, 1, none⟩ = some (.int .i64 f1) ∧ W.cell? ⟨w4.heap.size, 2, none⟩ = some (.int .i64 f2) ∧ Below w7.heap.size w7 W) := Lib.hid fun W hW => by
    have q1 := (K7.out.1.below hW).cells
    have q2 := (K7.out.2.1.below hW).cells
    have q3 := (K7.out.2.2.1.below hW).cells
    have q4 := (K7.out.2.2.2.1.below hW).cells
    exact ⟨q1.1, q1.2.1, q1.2.2.1, q2.1, q2.2.1, q2.2.2.1, q3.1, q3.2.1, q3.2.2.1, q4.1, q4.2.1, q4.2.2.1, hW⟩
  have hS0 := Lib.hid (hS.out _ (Below.refl w7.heap.size w7))
  have hS1 := Lib.hid (hS.out _ (Below.refl w7.heap.size w7).drew)
  obtain ⟨c0, c1, c2, c3, c4, c5, c6, c7, c8, c9, c10, c11, _⟩ := hS0.out
  obtain ⟨r, hr⟩ : ∃ r, rightT b t d = r := ⟨_, rfl⟩
  have hA : ∀ (x : Bool) (fn : Nat) (args : Array Value), (∀ W, Calls Try.prog fn args W fun e w' => e = .returned (.bool x) ∧ Below W.heap.size W w') → Hid (∀ W, (W.cell? ⟨w.heap.size, 0, none⟩ = some (.int .i64 b) ∧ W.cell? ⟨w.heap.size, 1, none⟩ = some (.int .i64 t) ∧ W.cell? ⟨w.heap.size, 2, none⟩ = some (.int .i64 d) ∧ W.cell? ⟨w2.heap.size, 0, none⟩ = some (.int .i64 b) ∧ W.cell? ⟨w2.heap.size, 1, none⟩ = some (.int .i64 t) ∧ W.cell? ⟨w2.heap.size, 2, none⟩ = some (.int .i64 d) ∧ W.cell? ⟨w3.heap.size, 0, none⟩ = some (.int .i64 f0) ∧ W.cell? ⟨w3.heap.size, 1, none⟩ = some (.int .i64 f1) ∧ W.cell? ⟨w3.heap.size, 2, none⟩ = some (.int .i64 f2) ∧ W.cell? ⟨w4.heap.size, 0, none⟩ = some (.int .i64 f0) ∧ W.cell? ⟨w4.heap.size, 1, none⟩ = some (.int .i64 f1) ∧ W.cell? ⟨w4.heap.size, 2, none⟩ = some (.int .i64 f2) ∧ Below w7.heap.size w7 W) → Calls Try.prog fn args W fun e w' => e = .returned (.bool x) ∧ (w'.cell? ⟨w.heap.size, 0, none⟩ = some (.int .i64 b) ∧ w'.cell? ⟨w.heap.size, 1, none⟩ = some (.int .i64 t) ∧ w'.cell? ⟨w.heap.size, 2, none⟩ = some (.int .i64 d) ∧ w'.cell? ⟨w2.heap.size, 0, none⟩ = some (.int .i64 b) ∧ w'.cell? ⟨w2.heap.size, 1, none⟩ = some (.int .i64 t) ∧ w'.cell? ⟨w2.heap.size, 2, none⟩ = some (.int .i64 d) ∧ w'.cell? ⟨w3.heap.size, 0, none⟩ = some (.int .i64 f0) ∧ w'.cell? ⟨w3.heap.size, 1, none⟩ = some (.int .i64 f1) ∧ w'.cell? ⟨w3.heap.size, 2, none⟩ = some (.int .i64 f2) ∧ w'.cell? ⟨w4.heap.size, 0, none⟩ = some (.int .i64 f0) ∧ w'.cell? ⟨w4.heap.size, 1, none⟩ = some (.int .i64 f1) ∧ w'.cell? ⟨w4.heap.size, 2, none⟩ = some (.int .i64 f2) ∧ Below w7.heap.size w7 w')) := fun x fn args h => Lib.hid fun W hW => by
    refine (h W).mono fun e w' ⟨h1, h2⟩ => ⟨h1, hS.out _ ?_⟩
    have hb := hW.2.2.2.2.2.2.2.2.2.2.2.2
    exact hb.trans (h2.mono hb.size)
  have hR := hA r 13 #[turnV b t d] (fun W => by rw [← hr]; exact rright_any b t d W)
  have hR2 := hA r 14 #[turnV b t d] (fun W => by rw [← hr]; exact r15right_any b t d W)
  have hRd := hA (r && decide (d ≤ now)) 15 #[turnV b t d, .int .i64 now] (fun W => by rw [← hr]; exact rready_any b t d now W)
  clear hA hr
  have hfin : Hid (∀ W, Below w7.heap.size w7 W → TimesOwn W 0 (.slice ao1 np cap1) P ∧ TimesOwn W 0 (.slice ao2 np cap2) P ∧ TurnAt W w5.heap.size n0 n1 n2 ∧ Below w.heap.size w W) := Lib.hid fun W hW =>
    ⟨row_more (K7.out.2.2.2.2.2.1.below hW) (Nat.zero_le _), row_more (K7.out.2.2.2.2.2.2.1.below hW) (Nat.zero_le _), K7.out.2.2.2.2.1.below hW, K7.out.2.2.2.2.2.2.2.trans (hW.mono K7.out.2.2.2.2.2.2.2.size)⟩
  clear hS K7
  cases r with
  | false =>
    simp only [Bool.false_and] at hRd
    go_wp2_with fail
    refine wp_region_held_drew (S := (fun W => W.cell? ⟨w.heap.size, 0, none⟩ = some (.int .i64 b) ∧ W.cell? ⟨w.heap.size, 1, none⟩ = some (.int .i64 t) ∧ W.cell? ⟨w.heap.size, 2, none⟩ = some (.int .i64 d) ∧ W.cell? ⟨w2.heap.size, 0, none⟩ = some (.int .i64 b) ∧ W.cell? ⟨w2.heap.size, 1, none⟩ = some (.int .i64 t) ∧ W.cell? ⟨w2.heap.size, 2, none⟩ = some (.int .i64 d) ∧ W.cell? ⟨w3.heap.size, 0, none⟩ = some (.int .i64 f0) ∧ W.cell? ⟨w3.heap.size, 1, none⟩ = some (.int .i64 f1) ∧ W.cell? ⟨w3.heap.size, 2, none⟩ = some (.int .i64 f2) ∧ W.cell? ⟨w4.heap.size, 0, none⟩ = some (.int .i64 f0) ∧ W.cell? ⟨w4.heap.size, 1, none⟩ = some (.int .i64 f1) ∧ W.cell? ⟨w4.heap.size, 2, none⟩ = some (.int .i64 f2) ∧ Below w7.heap.size w7 W)) (by kernel_rfl) (by first | assumption | exact hS0.out | exact hS1.out) (fun hHeld => ?_)
    refine' wpAnyH_take (i := 0) (v := (.agg #[.int .i64 f0, .int .i64 f1, .int .i64 f2])) ?hi0a (by kernel_rfl) (by kernel_rfl) (by kernel_rfl) ?hq0a (Or.inl ⟨?hw0a, ?hy0a⟩) (by assumption) ?hr0a
    case hi0a => (simp only [List.getElem?_toArray, List.getElem?_cons_zero]; exact rfl)
    case hq0a => exact fun _ _ _ h => h
    case hw0a => rfl
    case hy0a =>
      intro wz hz
      (try dsimp only at hz)
      go_simp
      all_goals with_reducible rfl
    try simp only [Act.put, List.setIfInBounds_toArray, List.set_cons_zero, List.set_cons_succ]
    refine' wpAnyH_take (i := 1) (v := (.agg #[.int .i64 f0, .int .i64 f1, .int .i64 f2])) ?hi1a (by kernel_rfl) (by kernel_rfl) (by kernel_rfl) ?hq1a (Or.inl ⟨?hw1a, ?hy1a⟩) (by assumption) ?hr1a
    case hi1a => (simp only [List.getElem?_toArray, List.getElem?_cons_zero, List.getElem?_cons_succ]; exact rfl)
    case hq1a => exact fun _ _ _ h => h
    case hw1a => rfl
    case hy1a =>
      intro wz hz
      (try dsimp only at hz)
      go_simp
      all_goals with_reducible rfl
    try simp only [Act.put, List.setIfInBounds_toArray, List.set_cons_zero, List.set_cons_succ]
    refine' wpAnyH_take (i := 2) (v := (.bool false)) ?hi2a (by kernel_rfl) (by kernel_rfl) (by kernel_rfl) ?hq2a (Or.inl ⟨?hw2a, ?hy2a⟩) (by assumption) ?hr2a
    case hi2a => (simp only [List.getElem?_toArray, List.getElem?_cons_zero, List.getElem?_cons_succ]; exact rfl)
    case hq2a => exact fun _ _ _ h => h
    case hw2a => rfl
    case hy2a =>
      intro wz hz
      (try dsimp only at hz)
      go_simp
      all_goals with_reducible rfl
    try simp only [Act.put, List.setIfInBounds_toArray, List.set_cons_zero, List.set_cons_succ]
    refine' wpAnyH_take (i := 3) (v := (.bool false)) ?hi3a (by kernel_rfl) (by kernel_rfl) (by kernel_rfl) ?hq3a (Or.inl ⟨?hw3a, ?hy3a⟩) (by assumption) ?hr3a
    case hi3a => (simp only [List.getElem?_toArray, List.getElem?_cons_zero, List.getElem?_cons_succ]; exact rfl)
    case hq3a => exact fun _ _ _ h => h
    case hw3a => rfl
    case hy3a =>
      intro wz hz
      (try dsimp only at hz)
      go_simp
      all_goals with_reducible rfl
    try simp only [Act.put, List.setIfInBounds_toArray, List.set_cons_zero, List.set_cons_succ]
    refine' wpAnyH_take (i := 4) (v := (.bool fo)) ?hi4a (by kernel_rfl) (by kernel_rfl) (by kernel_rfl) ?hq4a (Or.inl ⟨?hw4a, ?hy4a⟩) (by assumption) ?hr4a
    case hi4a => (simp only [List.getElem?_toArray, List.getElem?_cons_zero, List.getElem?_cons_succ]; exact rfl)
    case hq4a => exact fun _ _ _ h => h
    case hw4a => rfl
    case hy4a =>
      intro wz hz
      (try dsimp only at hz)
      go_simp
      all_goals with_reducible rfl
    try simp only [Act.put, List.setIfInBounds_toArray, List.set_cons_zero, List.set_cons_succ]
    refine' wpAnyH_take (i := 5) (v := (.bool fo)) ?hi5a (by kernel_rfl) (by kernel_rfl) (by kernel_rfl) ?hq5a (Or.inl ⟨?hw5a, ?hy5a⟩) (by assumption) ?hr5a
    case hi5a => (simp only [List.getElem?_toArray, List.getElem?_cons_zero, List.getElem?_cons_succ]; exact rfl)
    case hq5a => exact fun _ _ _ h => h
    case hw5a => rfl
    case hy5a =>
      intro wz hz
      (try dsimp only at hz)
      go_simp
      all_goals with_reducible rfl
    try simp only [Act.put, List.setIfInBounds_toArray, List.set_cons_zero, List.set_cons_succ]
    refine' wpAnyH_take (i := 6) (v := (.bool false)) ?hi6a (by kernel_rfl) (by kernel_rfl) (by kernel_rfl) ?hq6a (Or.inl ⟨?hw6a, ?hy6a⟩) (by assumption) ?hr6a
    case hi6a => (simp only [List.getElem?_toArray, List.getElem?_cons_zero, List.getElem?_cons_succ]; exact rfl)
    case hq6a => exact fun _ _ _ h => h
    case hw6a => rfl
    case hy6a =>
      intro wz hz
      (try dsimp only at hz)
      go_simp
      all_goals with_reducible rfl
    try simp only [Act.put, List.setIfInBounds_toArray, List.set_cons_zero, List.set_cons_succ]
    refine' wpAnyH_take (i := 7) (v := (.bool false)) ?hi7a (by kernel_rfl) (by kernel_rfl) (by kernel_rfl) ?hq7a (Or.inl ⟨?hw7a, ?hy7a⟩) (by assumption) ?hr7a
    case hi7a => (simp only [List.getElem?_toArray, List.getElem?_cons_zero, List.getElem?_cons_succ]; exact rfl)
    case hq7a => exact fun _ _ _ h => h
    case hw7a => rfl
    case hy7a =>
      intro wz hz
      (try dsimp only at hz)
      go_simp
      all_goals with_reducible rfl
    try simp only [Act.put, List.setIfInBounds_toArray, List.set_cons_zero, List.set_cons_succ]
    refine' wpAnyH_take (i := 8) (v := (.bool false)) ?hi8a (by kernel_rfl) (by kernel_rfl) (by kernel_rfl) ?hq8a (Or.inl ⟨?hw8a, ?hy8a⟩) (by assumption) ?hr8a
    case hi8a => (simp only [List.getElem?_toArray, List.getElem?_cons_zero, List.getElem?_cons_succ]; exact rfl)
    case hq8a => exact fun _ _ _ h => h
    case hw8a => rfl
    case hy8a =>
      intro wz hz
      (try dsimp only at hz)
      go_simp
      all_goals with_reducible rfl
    try simp only [Act.put, List.setIfInBounds_toArray, List.set_cons_zero, List.set_cons_succ]
    refine' wpAnyH_take (i := 9) (v := (.int .i64 fe)) ?hi9a (by kernel_rfl) (by kernel_rfl) (by kernel_rfl) ?hq9a (Or.inl ⟨?hw9a, ?hy9a⟩) (by assumption) ?hr9a
    case hi9a => (simp only [List.getElem?_toArray, List.getElem?_cons_zero, List.getElem?_cons_succ]; exact rfl)
    case hq9a => exact fun _ _ _ h => h
    case hw9a => rfl
    case hy9a =>
      intro wz hz
      (try dsimp only at hz)
      go_simp
      all_goals with_reducible rfl
    try simp only [Act.put, List.setIfInBounds_toArray, List.set_cons_zero, List.set_cons_succ]
    refine' wpAnyH_take (i := 10) (v := (.int .i64 fe)) ?hi10a (by kernel_rfl) (by kernel_rfl) (by kernel_rfl) ?hq10a (Or.inl ⟨?hw10a, ?hy10a⟩) (by assumption) ?hr10a
    case hi10a => (simp only [List.getElem?_toArray, List.getElem?_cons_zero, List.getElem?_cons_succ]; exact rfl)
    case hq10a => exact fun _ _ _ h => h
    case hw10a => rfl
    case hy10a =>
      intro wz hz
      (try dsimp only at hz)
      go_simp
      all_goals with_reducible rfl
    try simp only [Act.put, List.setIfInBounds_toArray, List.set_cons_zero, List.set_cons_succ]
    refine' wpAnyH_take (i := 11) (v := (.bool false)) ?hi11a (by kernel_rfl) (by kernel_rfl) (by kernel_rfl) ?hq11a (Or.inl ⟨?hw11a, ?hy11a⟩) (by assumption) ?hr11a
    case hi11a => (simp only [List.getElem?_toArray, List.getElem?_cons_zero, List.getElem?_cons_succ]; exact rfl)
    case hq11a => exact fun _ _ _ h => h
    case hw11a => rfl
    case hy11a =>
      intro wz hz
      (try dsimp only at hz)
      go_simp
      all_goals with_reducible rfl
    try simp only [Act.put, List.setIfInBounds_toArray, List.set_cons_zero, List.set_cons_succ]
    refine' wpAnyH_take (i := 12) (v := (.bool false)) ?hi12a (by kernel_rfl) (by kernel_rfl) (by kernel_rfl) ?hq12a (Or.inl ⟨?hw12a, ?hy12a⟩) (by assumption) ?hr12a
    case hi12a => (simp only [List.getElem?_toArray, List.getElem?_cons_zero, List.getElem?_cons_succ]; exact rfl)
    case hq12a => exact fun _ _ _ h => h
    case hw12a => rfl
    case hy12a =>
      intro wz hz
      (try dsimp only at hz)
      go_simp
      all_goals with_reducible rfl
    try simp only [Act.put, List.setIfInBounds_toArray, List.set_cons_zero, List.set_cons_succ]
    refine' wpAnyH_take (i := 13) (v := (.bool false)) ?hi13a (by kernel_rfl) (by kernel_rfl) (by kernel_rfl) ?hq13a (Or.inl ⟨?hw13a, ?hy13a⟩) (by assumption) ?hr13a
    case hi13a => (simp only [List.getElem?_toArray, List.getElem?_cons_zero, List.getElem?_cons_succ]; exact rfl)
    case hq13a => exact fun _ _ _ h => h
    case hw13a => rfl
    case hy13a =>
      intro wz hz
      (try dsimp only at hz)
      go_simp
      all_goals with_reducible rfl
    try simp only [Act.put, List.setIfInBounds_toArray, List.set_cons_zero, List.set_cons_succ]
    refine' wpAnyH_take (i := 14) (v := (.agg #[.int .i64 b, .int .i64 t, .int .i64 d])) ?hi14a (by kernel_rfl) (by kernel_rfl) (by kernel_rfl) ?hq14a (Or.inl ⟨?hw14a, ?hy14a⟩) (by assumption) ?hr14a
    case hi14a => (simp only [List.getElem?_toArray, List.getElem?_cons_zero, List.getElem?_cons_succ]; exact rfl)
    case hq14a => exact fun _ _ _ h => h
    case hw14a => rfl
    case hy14a =>
      intro wz hz
      (try dsimp only at hz)
      go_simp
      all_goals with_reducible rfl
    try simp only [Act.put, List.setIfInBounds_toArray, List.set_cons_zero, List.set_cons_succ]
    refine' wpAnyH_take (i := 16) (v := (.agg #[.int .i64 b, .int .i64 t, .int .i64 d])) ?hi16a (by kernel_rfl) (by kernel_rfl) (by kernel_rfl) ?hq16a (Or.inl ⟨?hw16a, ?hy16a⟩) (by assumption) ?hr16a
    case hi16a => (simp only [List.getElem?_toArray, List.getElem?_cons_zero, List.getElem?_cons_succ]; exact rfl)
    case hq16a => exact fun _ _ _ h => h
    case hw16a => rfl
    case hy16a =>
      intro wz hz
      (try dsimp only at hz)
      go_simp
      all_goals with_reducible rfl
    try simp only [Act.put, List.setIfInBounds_toArray, List.set_cons_zero, List.set_cons_succ]
    refine wpAnyH_ready (rs := [15]) (by kernel_rfl) (by simp) ?_
    refine AllReadyH.cons (o := ?ho15a) ?hio15a (fun K15 hKK15 => ?_) AllReadyH.nil
    case hio15a => (simp only [List.getElem?_toArray, List.getElem?_cons_zero, List.getElem?_cons_succ]; exact rfl)
    go_simp
    go_at_call 13
    with_reducible refine (hR.out _ ?_).mono ?_
    · assumption
    rintro e v15 ⟨rfl, hS15⟩
    refine hKK15.out _ _ hS15 (fun hHeld15 => ?_)
    try simp only [Act.put, List.setIfInBounds_toArray, List.set_cons_zero, List.set_cons_succ]
    refine wpAnyH_ready (rs := [17]) (by kernel_rfl) (by simp) ?_
    refine AllReadyH.cons (o := ?ho17a) ?hio17a (fun K17 hKK17 => ?_) AllReadyH.nil
    case hio17a => (simp only [List.getElem?_toArray, List.getElem?_cons_zero, List.getElem?_cons_succ]; exact rfl)
    go_simp
    go_at_call 14
    with_reducible refine (hR2.out _ ?_).mono ?_
    · assumption
    rintro e v17 ⟨rfl, hS17⟩
    refine hKK17.out _ _ hS17 (fun hHeld17 => ?_)
    try simp only [Act.put, List.setIfInBounds_toArray, List.set_cons_zero, List.set_cons_succ]
    refine' wpAnyH_take (i := 18) (v := (.bool false)) ?hi18a (by kernel_rfl) (by kernel_rfl) (by kernel_rfl) ?hq18a (Or.inl ⟨?hw18a, ?hy18a⟩) (by assumption) ?hr18a
    case hi18a => (simp only [List.getElem?_toArray, List.getElem?_cons_zero, List.getElem?_cons_succ]; exact rfl)
    case hq18a => exact fun _ _ _ h => h
    case hw18a => rfl
    case hy18a =>
      intro wz hz
      (try dsimp only at hz)
      go_simp
      all_goals with_reducible rfl
    try simp only [Act.put, List.setIfInBounds_toArray, List.set_cons_zero, List.set_cons_succ]
    refine' wpAnyH_take (i := 19) (v := (.bool false)) ?hi19a (by kernel_rfl) (by kernel_rfl) (by kernel_rfl) ?hq19a (Or.inl ⟨?hw19a, ?hy19a⟩) (by assumption) ?hr19a
    case hi19a => (simp only [List.getElem?_toArray, List.getElem?_cons_zero, List.getElem?_cons_succ]; exact rfl)
    case hq19a => exact fun _ _ _ h => h
    case hw19a => rfl
    case hy19a =>
      intro wz hz
      (try dsimp only at hz)
      go_simp
      all_goals with_reducible rfl
    try simp only [Act.put, List.setIfInBounds_toArray, List.set_cons_zero, List.set_cons_succ]
    refine' wpAnyH_take (i := 20) (v := (.bool false)) ?hi20a (by kernel_rfl) (by kernel_rfl) (by kernel_rfl) ?hq20a (Or.inl ⟨?hw20a, ?hy20a⟩) (by assumption) ?hr20a
    case hi20a => (simp only [List.getElem?_toArray, List.getElem?_cons_zero, List.getElem?_cons_succ]; exact rfl)
    case hq20a => exact fun _ _ _ h => h
    case hw20a => rfl
    case hy20a =>
      intro wz hz
      (try dsimp only at hz)
      go_simp
      all_goals with_reducible rfl
    try simp only [Act.put, List.setIfInBounds_toArray, List.set_cons_zero, List.set_cons_succ]
    refine' wpAnyH_take (i := 21) (v := (.agg #[.int .i64 b, .int .i64 t, .int .i64 d])) ?hi21a (by kernel_rfl) (by kernel_rfl) (by kernel_rfl) ?hq21a (Or.inl ⟨?hw21a, ?hy21a⟩) (by assumption) ?hr21a
    case hi21a => (simp only [List.getElem?_toArray, List.getElem?_cons_zero, List.getElem?_cons_succ]; exact rfl)
    case hq21a => exact fun _ _ _ h => h
    case hw21a => rfl
    case hy21a =>
      intro wz hz
      (try dsimp only at hz)
      go_simp
      all_goals with_reducible rfl
    try simp only [Act.put, List.setIfInBounds_toArray, List.set_cons_zero, List.set_cons_succ]
    refine' wpAnyH_take (i := 22) (v := (.int .i64 now)) ?hi22a (by kernel_rfl) (by kernel_rfl) (by kernel_rfl) ?hq22a (Or.inl ⟨?hw22a, ?hy22a⟩) (by assumption) ?hr22a
    case hi22a => (simp only [List.getElem?_toArray, List.getElem?_cons_zero, List.getElem?_cons_succ]; exact rfl)
    case hq22a => exact fun _ _ _ h => h
    case hw22a => rfl
    case hy22a =>
      intro wz hz
      (try dsimp only at hz)
      go_simp
      all_goals with_reducible rfl
    try simp only [Act.put, List.setIfInBounds_toArray, List.set_cons_zero, List.set_cons_succ]
    refine' wpAnyH_take (i := 24) (v := (.agg #[.int .i64 b, .int .i64 t, .int .i64 d])) ?hi24a (by kernel_rfl) (by kernel_rfl) (by kernel_rfl) ?hq24a (Or.inl ⟨?hw24a, ?hy24a⟩) (by assumption) ?hr24a
    case hi24a => (simp only [List.getElem?_toArray, List.getElem?_cons_zero, List.getElem?_cons_succ]; exact rfl)
    case hq24a => exact fun _ _ _ h => h
    case hw24a => rfl
    case hy24a =>
      intro wz hz
      (try dsimp only at hz)
      go_simp
      all_goals with_reducible rfl
    try simp only [Act.put, List.setIfInBounds_toArray, List.set_cons_zero, List.set_cons_succ]
    refine wpAnyH_ready (rs := [23]) (by kernel_rfl) (by simp) ?_
    refine AllReadyH.cons (o := ?ho23a) ?hio23a (fun K23 hKK23 => ?_) AllReadyH.nil
    case hio23a => (simp only [List.getElem?_toArray, List.getElem?_cons_zero, List.getElem?_cons_succ]; exact rfl)
    go_simp
    go_at_call 15
    with_reducible refine (hRd.out _ ?_).mono ?_
    · assumption
    rintro e v23 ⟨rfl, hS23⟩
    refine hKK23.out _ _ hS23 (fun hHeld23 => ?_)
    try simp only [Act.put, List.setIfInBounds_toArray, List.set_cons_zero, List.set_cons_succ]
    refine wpAnyH_ready (rs := [25]) (by kernel_rfl) (by simp) ?_
    refine AllReadyH.cons (o := ?ho25a) ?hio25a (fun K25 hKK25 => ?_) AllReadyH.nil
    case hio25a => (simp only [List.getElem?_toArray, List.getElem?_cons_zero, List.getElem?_cons_succ]; exact rfl)
    go_simp
    go_at_call 14
    with_reducible refine (hR2.out _ ?_).mono ?_
    · assumption
    rintro e v25 ⟨rfl, hS25⟩
    refine hKK25.out _ _ hS25 (fun hHeld25 => ?_)
    try simp only [Act.put, List.setIfInBounds_toArray, List.set_cons_zero, List.set_cons_succ]
    refine' wpAnyH_take (i := 26) (v := (.bool false)) ?hi26a (by kernel_rfl) (by kernel_rfl) (by kernel_rfl) ?hq26a (Or.inl ⟨?hw26a, ?hy26a⟩) (by assumption) ?hr26a
    case hi26a => (simp only [List.getElem?_toArray, List.getElem?_cons_zero, List.getElem?_cons_succ]; exact rfl)
    case hq26a => exact fun _ _ _ h => h
    case hw26a => rfl
    case hy26a =>
      intro wz hz
      (try dsimp only at hz)
      go_simp
      all_goals with_reducible rfl
    try simp only [Act.put, List.setIfInBounds_toArray, List.set_cons_zero, List.set_cons_succ]
    refine' wpAnyH_take (i := 27) (v := undef) ?hi27a (by kernel_rfl) (by kernel_rfl) (by kernel_rfl) ?hq27a (Or.inr ⟨?hw27a, rfl⟩) (by assumption) ?hr27a
    case hi27a => (simp only [List.getElem?_toArray, List.getElem?_cons_zero, List.getElem?_cons_succ]; exact rfl)
    case hq27a => exact fun _ _ _ h => h
    case hw27a => rfl
    try simp only [Act.put, List.setIfInBounds_toArray, List.set_cons_zero, List.set_cons_succ]
    refine' wpAnyH_take (i := 28) (v := undef) ?hi28a (by kernel_rfl) (by kernel_rfl) (by kernel_rfl) ?hq28a (Or.inr ⟨?hw28a, rfl⟩) (by assumption) ?hr28a
    case hi28a => (simp only [List.getElem?_toArray, List.getElem?_cons_zero, List.getElem?_cons_succ]; exact rfl)
    case hq28a => exact fun _ _ _ h => h
    case hw28a => rfl
    try simp only [Act.put, List.setIfInBounds_toArray, List.set_cons_zero, List.set_cons_succ]
    refine' wpAnyH_take (i := 29) (v := undef) ?hi29a (by kernel_rfl) (by kernel_rfl) (by kernel_rfl) ?hq29a (Or.inr ⟨?hw29a, rfl⟩) (by assumption) ?hr29a
    case hi29a => (simp only [List.getElem?_toArray, List.getElem?_cons_zero, List.getElem?_cons_succ]; exact rfl)
    case hq29a => exact fun _ _ _ h => h
    case hw29a => rfl
    try simp only [Act.put, List.setIfInBounds_toArray, List.set_cons_zero, List.set_cons_succ]
    refine' wpAnyH_take (i := 30) (v := undef) ?hi30a (by kernel_rfl) (by kernel_rfl) (by kernel_rfl) ?hq30a (Or.inr ⟨?hw30a, rfl⟩) (by assumption) ?hr30a
    case hi30a => (simp only [List.getElem?_toArray, List.getElem?_cons_zero, List.getElem?_cons_succ]; exact rfl)
    case hq30a => exact fun _ _ _ h => h
    case hw30a => rfl
    try simp only [Act.put, List.setIfInBounds_toArray, List.set_cons_zero, List.set_cons_succ]
    refine' wpAnyH_take (i := 31) (v := (.bool false)) ?hi31a (by kernel_rfl) (by kernel_rfl) (by kernel_rfl) ?hq31a (Or.inl ⟨?hw31a, ?hy31a⟩) (by assumption) ?hr31a
    case hi31a => (simp only [List.getElem?_toArray, List.getElem?_cons_zero, List.getElem?_cons_succ]; exact rfl)
    case hq31a => exact fun _ _ _ h => h
    case hw31a => rfl
    case hy31a =>
      intro wz hz
      (try dsimp only at hz)
      go_simp
      all_goals with_reducible rfl
    try simp only [Act.put, List.setIfInBounds_toArray, List.set_cons_zero, List.set_cons_succ]
    refine' wpAnyH_take (i := 32) (v := (.bool false)) ?hi32a (by kernel_rfl) (by kernel_rfl) (by kernel_rfl) ?hq32a (Or.inl ⟨?hw32a, ?hy32a⟩) (by assumption) ?hr32a
    case hi32a => (simp only [List.getElem?_toArray, List.getElem?_cons_zero, List.getElem?_cons_succ]; exact rfl)
    case hq32a => exact fun _ _ _ h => h
    case hw32a => rfl
    case hy32a =>
      intro wz hz
      (try dsimp only at hz)
      go_simp
      all_goals with_reducible rfl
    try simp only [Act.put, List.setIfInBounds_toArray, List.set_cons_zero, List.set_cons_succ]
    refine' wpAnyH_take (i := 33) (v := (.bool false)) ?hi33a (by kernel_rfl) (by kernel_rfl) (by kernel_rfl) ?hq33a (Or.inl ⟨?hw33a, ?hy33a⟩) (by assumption) ?hr33a
    case hi33a => (simp only [List.getElem?_toArray, List.getElem?_cons_zero, List.getElem?_cons_succ]; exact rfl)
    case hq33a => exact fun _ _ _ h => h
    case hw33a => rfl
    case hy33a =>
      intro wz hz
      (try dsimp only at hz)
      go_simp
      all_goals with_reducible rfl
    try simp only [Act.put, List.setIfInBounds_toArray, List.set_cons_zero, List.set_cons_succ]
    refine' wpAnyH_take (i := 34) (v := (.bool false)) ?hi34a (by kernel_rfl) (by kernel_rfl) (by kernel_rfl) ?hq34a (Or.inl ⟨?hw34a, ?hy34a⟩) (by assumption) ?hr34a
    case hi34a => (simp only [List.getElem?_toArray, List.getElem?_cons_zero, List.getElem?_cons_succ]; exact rfl)
    case hq34a => exact fun _ _ _ h => h
    case hw34a => rfl
    case hy34a =>
      intro wz hz
      (try dsimp only at hz)
      go_simp
      all_goals with_reducible rfl
    try simp only [Act.put, List.setIfInBounds_toArray, List.set_cons_zero, List.set_cons_succ]
    refine' wpAnyH_take (i := 35) (v := (.slice ao1 np cap1)) ?hi35a (by kernel_rfl) (by kernel_rfl) (by kernel_rfl) ?hq35a (Or.inl ⟨?hw35a, ?hy35a⟩) (by assumption) ?hr35a
    case hi35a => (simp only [List.getElem?_toArray, List.getElem?_cons_zero, List.getElem?_cons_succ]; exact rfl)
    case hq35a => exact fun _ _ _ h => h
    case hw35a => rfl
    case hy35a =>
      intro wz hz
      (try dsimp only at hz)
      go_simp
      all_goals with_reducible rfl
    try simp only [Act.put, List.setIfInBounds_toArray, List.set_cons_zero, List.set_cons_succ]
    refine' wpAnyH_take (i := 36) (v := (.int .i64 (np : Int))) ?hi36a (by kernel_rfl) (by kernel_rfl) (by kernel_rfl) ?hq36a (Or.inl ⟨?hw36a, ?hy36a⟩) (by assumption) ?hr36a
    case hi36a => (simp only [List.getElem?_toArray, List.getElem?_cons_zero, List.getElem?_cons_succ]; exact rfl)
    case hq36a => exact fun _ _ _ h => h
    case hw36a => rfl
    case hy36a =>
      intro wz hz
      (try dsimp only at hz)
      go_simp
      all_goals with_reducible rfl
    try simp only [Act.put, List.setIfInBounds_toArray, List.set_cons_zero, List.set_cons_succ]
    refine' wpAnyH_take (i := 37) (v := (.slice ao2 np cap2)) ?hi37a (by kernel_rfl) (by kernel_rfl) (by kernel_rfl) ?hq37a (Or.inl ⟨?hw37a, ?hy37a⟩) (by assumption) ?hr37a
    case hi37a => (simp only [List.getElem?_toArray, List.getElem?_cons_zero, List.getElem?_cons_succ]; exact rfl)
    case hq37a => exact fun _ _ _ h => h
    case hw37a => rfl
    case hy37a =>
      intro wz hz
      (try dsimp only at hz)
      go_simp
      all_goals with_reducible rfl
    try simp only [Act.put, List.setIfInBounds_toArray, List.set_cons_zero, List.set_cons_succ]
    refine' wpAnyH_take (i := 38) (v := (.int .i64 (np : Int))) ?hi38a (by kernel_rfl) (by kernel_rfl) (by kernel_rfl) ?hq38a (Or.inl ⟨?hw38a, ?hy38a⟩) (by assumption) ?hr38a
    case hi38a => (simp only [List.getElem?_toArray, List.getElem?_cons_zero, List.getElem?_cons_succ]; exact rfl)
    case hq38a => exact fun _ _ _ h => h
    case hw38a => rfl
    case hy38a =>
      intro wz hz
      (try dsimp only at hz)
      go_simp
      all_goals with_reducible rfl
    try simp only [Act.put, List.setIfInBounds_toArray, List.set_cons_zero, List.set_cons_succ]
    refine' wpAnyH_take (i := 39) (v := (.bool false)) ?hi39a (by kernel_rfl) (by kernel_rfl) (by kernel_rfl) ?hq39a (Or.inl ⟨?hw39a, ?hy39a⟩) (by assumption) ?hr39a
    case hi39a => (simp only [List.getElem?_toArray, List.getElem?_cons_zero, List.getElem?_cons_succ]; exact rfl)
    case hq39a => exact fun _ _ _ h => h
    case hw39a => rfl
    case hy39a =>
      intro wz hz
      (try dsimp only at hz)
      go_simp
      all_goals with_reducible rfl
    try simp only [Act.put, List.setIfInBounds_toArray, List.set_cons_zero, List.set_cons_succ]
    refine' wpAnyH_take (i := 40) (v := (.bool false)) ?hi40a (by kernel_rfl) (by kernel_rfl) (by kernel_rfl) ?hq40a (Or.inl ⟨?hw40a, ?hy40a⟩) (by assumption) ?hr40a
    case hi40a => (simp only [List.getElem?_toArray, List.getElem?_cons_zero, List.getElem?_cons_succ]; exact rfl)
    case hq40a => exact fun _ _ _ h => h
    case hw40a => rfl
    case hy40a =>
      intro wz hz
      (try dsimp only at hz)
      go_simp
      all_goals with_reducible rfl
    try simp only [Act.put, List.setIfInBounds_toArray, List.set_cons_zero, List.set_cons_succ]
    refine wpAnyH_done (by kernel_rfl) ?_ _
    have hBv := hS25.2.2.2.2.2.2.2.2.2.2.2.2
    clear hS0 hS1 hR hR2 hRd c0 c1 c2 c3 c4 c5 c6 c7 c8 c9 c10 c11
    go_wp2
    go_loopw [16] (fun iv wr => ∃ i : Nat, i ≤ np ∧ iv = .int .i64 i ∧ Hid (Below w7.heap.size w7 wr)) (fun iv _ => np - (intOf iv).toNat)
    case atStart => exact ⟨0, by omega, rfl, Lib.hid (by assumption)⟩
    case round =>
      obtain ⟨i, hi, rfl, hk⟩ := hrel
      by_cases hlt : i < np
      · obtain ⟨k1, k2, k3, k4⟩ := hfin.out wr hk.out
        obtain ⟨g1, rfl, _, _, m1, m2, z1⟩ := k1.cells i (by rw [HN.out]; exact hlt)
        obtain ⟨g2, rfl, _, _, m3, m4, z2⟩ := k2.cells i (by rw [HN.out]; exact hlt)
        unfold maxLen at m2 m4
        obtain ⟨x, hx⟩ : ∃ x, P[i]'(by rw [HN.out]; exact hlt) = x := ⟨_, rfl⟩
        rw [hx] at z1 z2
        have hltI : (i : Int) < (np : Int) := by omega
        have hK := Lib.hid hk.out
        clear k1 k2 k3 k4 hx hk
        go_wp2_with fail
        go_quiet (fail)
        go_wp2
        go_roundw
        case rel => exact ⟨i + 1, by omega, by go_num, Lib.hid (hK.out.trans ⟨rfl, rfl, rfl, Nat.le_refl _, fun _ _ => rfl⟩)⟩
        case measure => simp [intOf]; omega
      · obtain rfl : i = np := by omega
        obtain ⟨k1, k2, k3, k4⟩ := hfin.out wr hk.out
        obtain ⟨x0, x1, x2, _⟩ := k3.cells
        have Fin := Lib.hid k4
        clear k1 k2 k3 k4 hk
        by_cases h0 : now < 0
        · obtain ⟨rfl, rfl, rfl, rfl⟩ := hnv.out.2 (by omega)
          go_wp2
          go_ret
          exact ⟨rfl, Fin.out⟩
        · by_cases h1 : 1099511627776 < now
          · obtain ⟨rfl, rfl, rfl, rfl⟩ := hnv.out.2 (by omega)
            go_wp2
            go_ret
            exact ⟨rfl, Fin.out⟩
          · obtain ⟨e0, e1, e2, e3⟩ := hnv.out.1 (by omega)
            subst e1 e3
            rw [e0] at x0
            rw [e2] at x2
            go_wp2
            go_ret
            exact ⟨rfl, Fin.out⟩
  | true =>
    simp only [Bool.true_and] at hRd
    by_cases hd : d ≤ now
    · have hdd : decide (d ≤ now) = true := decide_eq_true hd
      rw [hdd] at hRd
      go_wp2_with fail
      go_region_held3 (fun W => W.cell? ⟨w.heap.size, 0, none⟩ = some (.int .i64 b) ∧ W.cell? ⟨w.heap.size, 1, none⟩ = some (.int .i64 t) ∧ W.cell? ⟨w.heap.size, 2, none⟩ = some (.int .i64 d) ∧ W.cell? ⟨w2.heap.size, 0, none⟩ = some (.int .i64 b) ∧ W.cell? ⟨w2.heap.size, 1, none⟩ = some (.int .i64 t) ∧ W.cell? ⟨w2.heap.size, 2, none⟩ = some (.int .i64 d) ∧ W.cell? ⟨w3.heap.size, 0, none⟩ = some (.int .i64 f0) ∧ W.cell? ⟨w3.heap.size, 1, none⟩ = some (.int .i64 f1) ∧ W.cell? ⟨w3.heap.size, 2, none⟩ = some (.int .i64 f2) ∧ W.cell? ⟨w4.heap.size, 0, none⟩ = some (.int .i64 f0) ∧ W.cell? ⟨w4.heap.size, 1, none⟩ = some (.int .i64 f1) ∧ W.cell? ⟨w4.heap.size, 2, none⟩ = some (.int .i64 f2) ∧ Below w7.heap.size w7 W)
          (first | assumption | exact hS0.out | exact hS1.out | (trace_state; fail))
          (first
            | (go_at_call 13; (with_reducible refine (hR.out _ ?_).mono ?_); (first | exact hS0.out | exact hS1.out | assumption); rintro e wa ⟨rfl, hSa⟩; obtain ⟨a0, a1, a2, a3, a4, a5, a6, a7, a8, a9, a10, a11, a12⟩ := id hSa)
            | (go_at_call 15; (with_reducible refine (hRd.out _ ?_).mono ?_); (first | exact hS0.out | exact hS1.out | assumption); rintro e wp ⟨rfl, hSp⟩; obtain ⟨p0, p1, p2, p3, p4, p5, p6, p7, p8, p9, p10, p11, p12⟩ := id hSp)
            | (go_at_call 14; (with_reducible refine (hR2.out _ ?_).mono ?_); (first | exact hS0.out | exact hS1.out | assumption); rintro e wq ⟨rfl, hSq⟩; obtain ⟨q0, q1, q2, q3, q4, q5, q6, q7, q8, q9, q10, q11, q12⟩ := id hSq))
      all_goals
        clear hS0 hS1 hR hR2 hRd c0 c1 c2 c3 c4 c5 c6 c7 c8 c9 c10 c11
        go_wp2
        go_loopw [16] (fun iv wr => ∃ i : Nat, i ≤ np ∧ iv = .int .i64 i ∧ Hid (Below w7.heap.size w7 wr)) (fun iv _ => np - (intOf iv).toNat)
        case atStart => exact ⟨0, by omega, rfl, Lib.hid (by assumption)⟩
        case round =>
          obtain ⟨i, hi, rfl, hk⟩ := hrel
          by_cases hlt : i < np
          · obtain ⟨k1, k2, k3, k4⟩ := hfin.out wr hk.out
            obtain ⟨g1, rfl, _, _, m1, m2, z1⟩ := k1.cells i (by rw [HN.out]; exact hlt)
            obtain ⟨g2, rfl, _, _, m3, m4, z2⟩ := k2.cells i (by rw [HN.out]; exact hlt)
            unfold maxLen at m2 m4
            obtain ⟨x, hx⟩ : ∃ x, P[i]'(by rw [HN.out]; exact hlt) = x := ⟨_, rfl⟩
            rw [hx] at z1 z2
            have hltI : (i : Int) < (np : Int) := by omega
            have hK := Lib.hid hk.out
            clear k1 k2 k3 k4 hx hk
            go_wp2_with fail
            go_quiet (fail)
            go_wp2
            go_roundw
            case rel => exact ⟨i + 1, by omega, by go_num, Lib.hid (hK.out.trans ⟨rfl, rfl, rfl, Nat.le_refl _, fun _ _ => rfl⟩)⟩
            case measure => simp [intOf]; omega
          · obtain rfl : i = np := by omega
            obtain ⟨k1, k2, k3, k4⟩ := hfin.out wr hk.out
            obtain ⟨x0, x1, x2, _⟩ := k3.cells
            have Fin := Lib.hid k4
            clear k1 k2 k3 k4 hk
            by_cases h0 : now < 0
            · obtain ⟨rfl, rfl, rfl, rfl⟩ := hnv.out.2 (by omega)
              go_wp2
              go_ret
              exact ⟨rfl, Fin.out⟩
            · by_cases h1 : 1099511627776 < now
              · obtain ⟨rfl, rfl, rfl, rfl⟩ := hnv.out.2 (by omega)
                go_wp2
                go_ret
                exact ⟨rfl, Fin.out⟩
              · obtain ⟨e0, e1, e2, e3⟩ := hnv.out.1 (by omega)
                subst e1 e3
                rw [e0] at x0
                rw [e2] at x2
                go_wp2
                go_ret
                exact ⟨rfl, Fin.out⟩
    · have hdd : decide (d ≤ now) = false := decide_eq_false hd
      rw [hdd] at hRd
      go_wp2_with fail
      go_region_held3 (fun W => W.cell? ⟨w.heap.size, 0, none⟩ = some (.int .i64 b) ∧ W.cell? ⟨w.heap.size, 1, none⟩ = some (.int .i64 t) ∧ W.cell? ⟨w.heap.size, 2, none⟩ = some (.int .i64 d) ∧ W.cell? ⟨w2.heap.size, 0, none⟩ = some (.int .i64 b) ∧ W.cell? ⟨w2.heap.size, 1, none⟩ = some (.int .i64 t) ∧ W.cell? ⟨w2.heap.size, 2, none⟩ = some (.int .i64 d) ∧ W.cell? ⟨w3.heap.size, 0, none⟩ = some (.int .i64 f0) ∧ W.cell? ⟨w3.heap.size, 1, none⟩ = some (.int .i64 f1) ∧ W.cell? ⟨w3.heap.size, 2, none⟩ = some (.int .i64 f2) ∧ W.cell? ⟨w4.heap.size, 0, none⟩ = some (.int .i64 f0) ∧ W.cell? ⟨w4.heap.size, 1, none⟩ = some (.int .i64 f1) ∧ W.cell? ⟨w4.heap.size, 2, none⟩ = some (.int .i64 f2) ∧ Below w7.heap.size w7 W)
          (first | assumption | exact hS0.out | exact hS1.out | (trace_state; fail))
          (first
            | (go_at_call 13; (with_reducible refine (hR.out _ ?_).mono ?_); (first | exact hS0.out | exact hS1.out | assumption); rintro e wa2 ⟨rfl, hSa⟩; obtain ⟨a0, a1, a2, a3, a4, a5, a6, a7, a8, a9, a10, a11, a12⟩ := id hSa)
            | (go_at_call 15; (with_reducible refine (hRd.out _ ?_).mono ?_); (first | exact hS0.out | exact hS1.out | assumption); rintro e wp ⟨rfl, hSp⟩; obtain ⟨p0, p1, p2, p3, p4, p5, p6, p7, p8, p9, p10, p11, p12⟩ := id hSp)
            | (go_at_call 14; (with_reducible refine (hR2.out _ ?_).mono ?_); (first | exact hS0.out | exact hS1.out | assumption); rintro e wq ⟨rfl, hSq⟩; obtain ⟨q0, q1, q2, q3, q4, q5, q6, q7, q8, q9, q10, q11, q12⟩ := id hSq))
      all_goals
        clear hS0 hS1 hR hR2 hRd c0 c1 c2 c3 c4 c5 c6 c7 c8 c9 c10 c11
        go_wp2
        go_loopw [16] (fun iv wr => ∃ i : Nat, i ≤ np ∧ iv = .int .i64 i ∧ Hid (Below w7.heap.size w7 wr)) (fun iv _ => np - (intOf iv).toNat)
        case atStart => exact ⟨0, by omega, rfl, Lib.hid (by assumption)⟩
        case round =>
          obtain ⟨i, hi, rfl, hk⟩ := hrel
          by_cases hlt : i < np
          · obtain ⟨k1, k2, k3, k4⟩ := hfin.out wr hk.out
            obtain ⟨g1, rfl, _, _, m1, m2, z1⟩ := k1.cells i (by rw [HN.out]; exact hlt)
            obtain ⟨g2, rfl, _, _, m3, m4, z2⟩ := k2.cells i (by rw [HN.out]; exact hlt)
            unfold maxLen at m2 m4
            obtain ⟨x, hx⟩ : ∃ x, P[i]'(by rw [HN.out]; exact hlt) = x := ⟨_, rfl⟩
            rw [hx] at z1 z2
            have hltI : (i : Int) < (np : Int) := by omega
            have hK := Lib.hid hk.out
            clear k1 k2 k3 k4 hx hk
            go_wp2_with fail
            go_quiet (fail)
            go_wp2
            go_roundw
            case rel => exact ⟨i + 1, by omega, by go_num, Lib.hid (hK.out.trans ⟨rfl, rfl, rfl, Nat.le_refl _, fun _ _ => rfl⟩)⟩
            case measure => simp [intOf]; omega
          · obtain rfl : i = np := by omega
            obtain ⟨k1, k2, k3, k4⟩ := hfin.out wr hk.out
            obtain ⟨x0, x1, x2, _⟩ := k3.cells
            have Fin := Lib.hid k4
            clear k1 k2 k3 k4 hk
            by_cases h0 : now < 0
            · obtain ⟨rfl, rfl, rfl, rfl⟩ := hnv.out.2 (by omega)
              go_wp2
              go_ret
              exact ⟨rfl, Fin.out⟩
            · by_cases h1 : 1099511627776 < now
              · obtain ⟨rfl, rfl, rfl, rfl⟩ := hnv.out.2 (by omega)
                go_wp2
                go_ret
                exact ⟨rfl, Fin.out⟩
              · obtain ⟨e0, e1, e2, e3⟩ := hnv.out.1 (by omega)
                subst e1 e3
                rw [e0] at x0
                rw [e2] at x2
                go_wp2
                go_ret
                exact ⟨rfl, Fin.out⟩
end Go.Proofs.Ytnggjoleiapboaa
