/-
  CtypeBack: the walk.
-/
import Derived.Test.YtafpifpgfpkckaaDoorAwake12
import Derived.Test.YtafpifpgfpkckaaDoorFew12
namespace Go.Proofs.YtafpifpgfpkckaaDoor
open Go.RowKit

set_option maxRecDepth 100000 in
set_option maxHeartbeats 4000000 in
theorem cback_walk (v : Value) (t : TypeC) (q : ByteArray) (w : World) (hat : ParsAt w w.heap.size v t.2.2) (hsm : t.1.length ≤ maxLen ∧ t.2.1.length ≤ maxLen ∧ ∀ p ∈ t.2.2, p.1.length ≤ maxLen ∧ p.2.length ≤ maxLen) (hq : q.size ≤ maxLen) :
    Calls Tryd.prog 4 #[typeV t v, .string q] w fun e w' => e = .returned (.bool true) ∧ Below w.heap.size w w' := by
  have haw := fun W => awake12_any W
  obtain ⟨ao, cap, rfl, hc1, hc2⟩ := hat.slice
  obtain ⟨X, hX⟩ : ∃ X, textQ t.1 = X := ⟨_, rfl⟩
  obtain ⟨Y, hY⟩ : ∃ Y, textQ t.2.1 = Y := ⟨_, rfl⟩
  obtain ⟨n, hn⟩ : ∃ n, t.2.2.length = n := ⟨_, rfl⟩
  have Hat : Hid (∀ W, Below w.heap.size w W → ParsAt W w.heap.size (.slice ao n cap) t.2.2) := Lib.hid fun W hW => by rw [← hn]; exact hat.below hW (Nat.le_refl _)
  have hfew : Hid (∀ W, Below w.heap.size w W → Calls Tryd.prog 9 #[.agg #[.string X, .string Y, .slice ao n cap]] W (FewPostC t W)) := Lib.hid fun W hW => by
    have := few12_any w.heap.size _ t W (Hat.out W hW) hW.size hsm.1 hsm.2.1 hsm.2.2
    unfold typeV at this
    rw [hX, hY] at this
    exact this
  have hrt : Hid (∀ W, Below w.heap.size w W → Calls Tryd.prog 17 #[.agg #[.string X, .string Y, .slice ao n cap]] W fun e w' => e = .returned (.bool (rightC t)) ∧ Below W.heap.size W w') := Lib.hid fun W hW => by
    have := cright_any w.heap.size _ t W (Hat.out W hW) hW.size
    unfold typeV at this
    rw [hX, hY] at this
    exact this
  have hpr : Hid (∀ W, Below w.heap.size w W → Calls Tryd.prog 10 #[.agg #[.string X, .string Y, .slice ao n cap]] W fun e w' => e = .returned (printV12 t) ∧ Below W.heap.size W w') := Lib.hid fun W hW => by
    have := cprint_any w.heap.size _ t W (Hat.out W hW) hW.size
    unfold typeV at this
    rw [hX, hY] at this
    exact this
  have hsm2 : Hid (∀ W bo cb, ParsAt W W.heap.size (.slice bo n cb) t.2.2 → ParsAt W W.heap.size (.slice ao n cap) t.2.2 → Calls Tryd.prog 19 #[.agg #[.string X, .string Y, .slice bo n cb], .agg #[.string X, .string Y, .slice ao n cap]] W fun e w' => e = .returned (.bool true) ∧ Below W.heap.size W w') := Lib.hid fun W bo cb h1 h2 => by
    have := csame_any W.heap.size _ _ t t W h1 h2 (Nat.le_refl _)
    unfold typeV at this
    rw [hX, hY, decide_eq_true rfl] at this
    exact this
  obtain ⟨T, hT⟩ : ∃ T, textQ (textC t) = T := ⟨_, rfl⟩
  obtain ⟨P, hP⟩ : ∃ P, (⟨#[32]⟩ : ByteArray) ++ T ++ (⟨#[9, 32]⟩ : ByteArray) = P := ⟨_, rfl⟩
  have HP : Hid (rightC t = true → (¬ 9223372036854775807 < 1 + T.size) ∧ (¬ 9223372036854775807 < 1 + T.size + 2) ∧ ∀ W, Calls Tryd.prog 12 #[.string P] W fun e w' => (∃ bo cb, e = .returned (.tuple #[.agg #[.string X, .string Y, .slice bo n cb], .int .i64 0]) ∧ Hid (ParsAt w' w'.heap.size (.slice bo n cb) t.2.2)) ∧ Below W.heap.size W w') := Lib.hid fun hr => by
    have hTs : T.size ≤ 3000 := by rw [← hT]; exact text_lenC hr
    have hPd : P.data.toList = [32] ++ (textC t ++ [9, 32]) := by
      rw [← hP, ← hT, ByteArray.data_append, ByteArray.data_append, Array.toList_append, Array.toList_append, List.append_assoc]
      rfl
    have hPs : P.size ≤ 3003 := by
      have e : P.size = P.data.toList.length := rfl
      have := text_lenC hr
      rw [e, hPd]
      simp only [List.length_append, List.length_cons, List.length_nil]
      omega
    refine ⟨by omega, by omega, fun W => ?_⟩
    refine (cparse_any P W (by omega)).mono ?_
    rintro e w' ⟨u, rfl, ha, hb⟩
    have hpq : parseT P.data.toList = (t, 0) := by
      unfold parseT
      rw [hPd, print_back t [32] [9, 32] hr rfl rfl]
    rw [hpq] at ha ⊢
    obtain ⟨bo, cb, rfl, _⟩ := ha.slice
    simp only at ha ⊢
    rw [hn] at ha ⊢
    refine ⟨⟨bo, cb, ?_, Lib.hid ha⟩, hb⟩
    unfold typeV
    rw [hX, hY]
  have hnone : Hid (parseC q.data.toList = none → q.size ≤ 3000 → ∀ W, Calls Tryd.prog 12 #[.string q] W fun e w' => (∃ bo cb, e = .returned (.tuple #[.agg #[.string ⟨#[]⟩, .string ⟨#[]⟩, .slice bo 0 cb], .int .i64 2])) ∧ Below W.heap.size W w') := Lib.hid fun hp hs W => by
    refine (cparse_any q W (by omega)).mono ?_
    rintro e w' ⟨u, rfl, ha, hb⟩
    rw [show parseT q.data.toList = (([], [], []), 2) by unfold parseT; rw [hp]] at ha ⊢
    obtain ⟨bo, cb, rfl, _⟩ := ha.slice
    exact ⟨⟨bo, cb, rfl⟩, hb⟩
  have hsome : Hid (∀ x X1 Y1 n1, textQ x.1 = X1 → textQ x.2.1 = Y1 → x.2.2.length = n1 → ∀ s : ByteArray, parseC s.data.toList = some x → s.size ≤ 3000 → ∀ W, Calls Tryd.prog 12 #[.string s] W fun e w' => (∃ bo cb, e = .returned (.tuple #[.agg #[.string X1, .string Y1, .slice bo n1 cb], .int .i64 0]) ∧ Hid (ParsAt w' w'.heap.size (.slice bo n1 cb) x.2.2)) ∧ Below W.heap.size W w') := Lib.hid fun x X1 Y1 n1 h1 h2 h3 s hp hs W => by
    refine (cparse_any s W (by omega)).mono ?_
    rintro e w' ⟨u, rfl, ha, hb⟩
    rw [show parseT s.data.toList = (x, 0) by unfold parseT; rw [hp]] at ha ⊢
    obtain ⟨bo, cb, rfl, _⟩ := ha.slice
    simp only at ha ⊢
    rw [h3] at ha ⊢
    refine ⟨⟨bo, cb, ?_, Lib.hid ha⟩, hb⟩
    unfold typeV
    rw [h1, h2]
  have HT := Lib.hid (And.intro hT hP)
  unfold maxLen at hq hc2
  rw [hn] at hc1
  unfold typeV
  rw [hX, hY, hn]
  obtain ⟨w0, hw0⟩ : ∃ w0, w.alloc (.cells #[.string X, .string Y, .slice ao n cap] 24) = w0 := ⟨_, rfl⟩
  have b0 : Below w.heap.size w w0 := by rw [← hw0]; exact (Below.refl _ _).alloc (Nat.le_refl _) _
  have t0 : TypAt w0 w.heap.size X Y ao n cap := by rw [← hw0]; exact typ_new w _ _ _ _ _
  obtain ⟨c0, c1, c2, _⟩ := t0.cells
  have K0 := Lib.hid (And.intro b0 t0)
  have step : Hid (∀ W W', (Below w.heap.size w W ∧ TypAt W w.heap.size X Y ao n cap) → Below W.heap.size W W' → (Below w.heap.size w W' ∧ TypAt W' w.heap.size X Y ao n cap)) := Lib.hid fun W W' ⟨h1, h2⟩ hb => ⟨h1.trans (hb.mono h1.size), h2.below hb⟩
  clear hat hsm hX hY hn hT hP b0 t0
  go_enter Tryd.func4, Tryd.ntmps4
  go_wp2_with fail
  refine (haw _).mono ?_
  rintro e w1 ⟨rfl, hb1⟩
  have K1 := Lib.hid (step.out _ _ K0.out hb1)
  obtain ⟨c0, c1, c2, _⟩ := K1.out.2.cells
  have h1 := hfew.out w1 K1.out.1
  clear haw hb1 K0 hfew
  go_wp2_with fail
  refine h1.mono ?_
  rintro e w2 ⟨b, rfl, hfb, hb2⟩
  have K2 := Lib.hid (step.out _ _ K1.out hb2)
  obtain ⟨c0, c1, c2, _⟩ := K2.out.2.cells
  clear h1 hb2 K1 hfb
  cases b with
  | false =>
    go_wp2
    go_ret
    exact ⟨rfl, K2.out.1⟩
  | true =>
    by_cases h2 : 3000 < q.size
    · go_wp2
      go_ret
      exact ⟨rfl, K2.out.1⟩
    · cases hpq : parseC q.data.toList with
      | none =>
        have h1 := hnone.out hpq (by omega) w2
        clear hpq hnone hsome
        go_wp2_with fail
        refine h1.mono ?_
        rintro e w3 ⟨⟨bo, cb, rfl⟩, hb⟩
        obtain ⟨w4, hw4⟩ : ∃ wc, w3.alloc (.cells #[.string ⟨#[]⟩, .string ⟨#[]⟩, .slice bo 0 cb] 24) = wc := ⟨_, rfl⟩
        have l4 : Below w3.heap.size w3 w4 := by rw [← hw4]; exact (Below.refl _ _).alloc (Nat.le_refl _) _
        have K := Lib.hid (step.out _ _ (step.out _ _ K2.out hb) l4)
        obtain ⟨c0, c1, c2, _⟩ := K.out.2.cells
        clear h1 hb l4 K2
        have h1 := hpr.out w4 K.out.1
        cases hr : rightC t with
        | false =>
          rw [print_bad12 hr] at h1
          rw [hr] at hrt
          clear hr HP hpr
          go_wp2_with fail
          refine h1.mono ?_
          rintro e wa ⟨rfl, hb⟩
          have KA := Lib.hid (step.out _ _ K.out hb)
          obtain ⟨c0, c1, c2, _⟩ := KA.out.2.cells
          have h2 := hrt.out wa KA.out.1
          clear h1 hb K hrt
          go_wp2_with fail
          refine h2.mono ?_
          rintro e wb ⟨rfl, hb⟩
          have KB := Lib.hid (step.out _ _ KA.out hb)
          clear h2 hb KA step
          go_wp2
          go_ret
          exact ⟨rfl, KB.out.1⟩
        | true =>
          rw [print_good12 hr] at h1
          obtain ⟨k1, k2, hps⟩ := HP.out hr
          rw [HT.out.1] at h1
          have hPq := HT.out.2
          clear hr HP hpr hrt
          go_wp2_with fail
          refine h1.mono ?_
          rintro e wa ⟨rfl, hb⟩
          have KA := Lib.hid (step.out _ _ K.out hb)
          obtain ⟨c0, c1, c2, _⟩ := KA.out.2.cells
          have h2 := hps wa
          clear h1 hb K hps
          go_wp2_with fail
          refine h2.mono ?_
          rintro e wb ⟨⟨bo, cb, rfl, hat⟩, hb⟩
          obtain ⟨wc, hwc⟩ : ∃ wc, wb.alloc (.cells #[.string X, .string Y, .slice bo n cb] 24) = wc := ⟨_, rfl⟩
          have lc : Below wb.heap.size wb wc := by rw [← hwc]; exact (Below.refl _ _).alloc (Nat.le_refl _) _
          have nc : TypAt wc wb.heap.size X Y bo n cb := by rw [← hwc]; exact typ_new wb _ _ _ _ _
          have KC := Lib.hid (step.out _ _ (step.out _ _ KA.out hb) lc)
          obtain ⟨c0, c1, c2, _⟩ := KC.out.2.cells
          obtain ⟨d0, d1, d2, _⟩ := nc.cells
          have h3 := hsm2.out wc bo cb ((hat.out.below lc (Nat.le_refl _)).up lc.size) ((Hat.out wc KC.out.1).up KC.out.1.size)
          clear h2 hb hat lc nc KA hsm2 Hat hPq k1 k2
          go_wp2_with fail
          refine h3.mono ?_
          rintro e wd ⟨rfl, hb⟩
          have KD := Lib.hid (step.out _ _ KC.out hb)
          clear h3 hb KC step
          go_wp2
          go_ret
          exact ⟨rfl, KD.out.1⟩
      | some x =>
        have hrx := parse_right hpq
        obtain ⟨X1, hX1⟩ : ∃ X, textQ x.1 = X := ⟨_, rfl⟩
        obtain ⟨Y1, hY1⟩ : ∃ Y, textQ x.2.1 = Y := ⟨_, rfl⟩
        obtain ⟨n1, hn1⟩ : ∃ n, x.2.2.length = n := ⟨_, rfl⟩
        obtain ⟨U, hU⟩ : ∃ U, textQ (textC x) = U := ⟨_, rfl⟩
        have h1 := hsome.out x X1 Y1 n1 hX1 hY1 hn1 q hpq (by omega) w2
        have h5 := hsome.out x X1 Y1 n1 hX1 hY1 hn1 U (by
          have := print_back x [] [] hrx rfl rfl
          rw [List.nil_append, List.append_nil] at this
          rw [← hU]
          exact this) (by rw [← hU]; exact text_lenC hrx)
        have h4 : Hid (∀ W bo cb, ParsAt W W.heap.size (.slice bo n1 cb) x.2.2 → Calls Tryd.prog 10 #[.agg #[.string X1, .string Y1, .slice bo n1 cb]] W fun e w' => e = .returned (.tuple #[.string U, .int .i64 0]) ∧ Below W.heap.size W w') := Lib.hid fun W bo cb hW => by
          have := cprint_any W.heap.size _ x W hW (Nat.le_refl _)
          unfold typeV at this
          rw [hX1, hY1, print_good12 hrx, hU] at this
          exact this
        have h6 : Hid (∀ W bo cb, ParsAt W W.heap.size (.slice bo n1 cb) x.2.2 → Calls Tryd.prog 17 #[.agg #[.string X1, .string Y1, .slice bo n1 cb]] W fun e w' => e = .returned (.bool true) ∧ Below W.heap.size W w') := Lib.hid fun W bo cb hW => by
          have := cright_any W.heap.size _ x W hW (Nat.le_refl _)
          unfold typeV at this
          rw [hX1, hY1, hrx] at this
          exact this
        have h7 : Hid (∀ W bo cb bo2 cb2, ParsAt W W.heap.size (.slice bo n1 cb) x.2.2 → ParsAt W W.heap.size (.slice bo2 n1 cb2) x.2.2 → Calls Tryd.prog 19 #[.agg #[.string X1, .string Y1, .slice bo n1 cb], .agg #[.string X1, .string Y1, .slice bo2 n1 cb2]] W fun e w' => e = .returned (.bool true) ∧ Below W.heap.size W w') := Lib.hid fun W bo cb bo2 cb2 hW hW2 => by
          have := csame_any W.heap.size _ _ x x W hW hW2 (Nat.le_refl _)
          unfold typeV at this
          rw [hX1, hY1, decide_eq_true rfl] at this
          exact this
        have H5 := Lib.hid h5
        clear hpq hnone hsome hX1 hY1 hn1 hU hrx h5
        go_wp2_with fail
        refine h1.mono ?_
        rintro e w3 ⟨⟨bo, cb, rfl, ha⟩, hb⟩
        obtain ⟨w4, hw4⟩ : ∃ wc, w3.alloc (.cells #[.string X1, .string Y1, .slice bo n1 cb] 24) = wc := ⟨_, rfl⟩
        have l4 : Below w3.heap.size w3 w4 := by rw [← hw4]; exact (Below.refl _ _).alloc (Nat.le_refl _) _
        have n4 : TypAt w4 w3.heap.size X1 Y1 bo n1 cb := by rw [← hw4]; exact typ_new w3 _ _ _ _ _
        have step2 : Hid (∀ W W', ((Below w.heap.size w W ∧ TypAt W w.heap.size X Y ao n cap) ∧ TypAt W w3.heap.size X1 Y1 bo n1 cb ∧ ParsAt W W.heap.size (.slice bo n1 cb) x.2.2) → Below W.heap.size W W' → ((Below w.heap.size w W' ∧ TypAt W' w.heap.size X Y ao n cap) ∧ TypAt W' w3.heap.size X1 Y1 bo n1 cb ∧ ParsAt W' W'.heap.size (.slice bo n1 cb) x.2.2)) := Lib.hid fun W W' ⟨h1, h2, h3⟩ hb => ⟨step.out _ _ h1 hb, h2.below hb, (h3.below hb (Nat.le_refl _)).up hb.size⟩
        have K4 : Hid ((Below w.heap.size w w4 ∧ TypAt w4 w.heap.size X Y ao n cap) ∧ TypAt w4 w3.heap.size X1 Y1 bo n1 cb ∧ ParsAt w4 w4.heap.size (.slice bo n1 cb) x.2.2) := Lib.hid ⟨step.out _ _ (step.out _ _ K2.out hb) l4, n4, (ha.out.below l4 (Nat.le_refl _)).up l4.size⟩
        obtain ⟨d0, d1, d2, _⟩ := K4.out.2.1.cells
        have h9 := h4.out w4 bo cb K4.out.2.2
        clear h1 hb l4 n4 ha K2 h4
        go_wp2_with fail
        refine h9.mono ?_
        rintro e w5 ⟨rfl, hb⟩
        have K5 := Lib.hid (step2.out _ _ K4.out hb)
        have h10 := H5.out w5
        clear h9 hb K4 H5
        go_wp2_with fail
        refine h10.mono ?_
        rintro e w6 ⟨⟨bo2, cb2, rfl, ha⟩, hb⟩
        obtain ⟨w7, hw7⟩ : ∃ wc, w6.alloc (.cells #[.string X1, .string Y1, .slice bo2 n1 cb2] 24) = wc := ⟨_, rfl⟩
        have l7 : Below w6.heap.size w6 w7 := by rw [← hw7]; exact (Below.refl _ _).alloc (Nat.le_refl _) _
        have n7 : TypAt w7 w6.heap.size X1 Y1 bo2 n1 cb2 := by rw [← hw7]; exact typ_new w6 _ _ _ _ _
        have K7 := Lib.hid (step2.out _ _ (step2.out _ _ K5.out hb) l7)
        have N7 := Lib.hid (And.intro n7 ((ha.out.below l7 (Nat.le_refl _)).up l7.size))
        obtain ⟨d0, d1, d2, _⟩ := K7.out.2.1.cells
        obtain ⟨e0, e1, e2, _⟩ := n7.cells
        have h11 := h6.out w7 bo cb K7.out.2.2
        clear h10 hb l7 n7 ha K5 h6
        go_wp2_with fail
        refine h11.mono ?_
        rintro e w8 ⟨rfl, hb⟩
        have K8 := Lib.hid (step2.out _ _ K7.out hb)
        have n8 := N7.out.1.below hb
        obtain ⟨d0, d1, d2, _⟩ := K8.out.2.1.cells
        obtain ⟨e0, e1, e2, _⟩ := n8.cells
        have h12 := h7.out w8 bo cb bo2 cb2 K8.out.2.2 ((N7.out.2.below hb (Nat.le_refl _)).up hb.size)
        clear h11 hb n8 K7 N7 h7
        go_wp2_with fail
        refine h12.mono ?_
        rintro e w9 ⟨rfl, hb⟩
        have K := Lib.hid (step2.out _ _ K8.out hb).1
        obtain ⟨c0, c1, c2, _⟩ := K.out.2.cells
        clear h12 hb K8 step2 hw4 hw7 d0 d1 d2 e0 e1 e2
        have h1 := hpr.out w9 K.out.1
        cases hr : rightC t with
        | false =>
          rw [print_bad12 hr] at h1
          rw [hr] at hrt
          clear hr HP hpr
          go_wp2_with fail
          refine h1.mono ?_
          rintro e wa ⟨rfl, hb⟩
          have KA := Lib.hid (step.out _ _ K.out hb)
          obtain ⟨c0, c1, c2, _⟩ := KA.out.2.cells
          have h2 := hrt.out wa KA.out.1
          clear h1 hb K hrt
          go_wp2_with fail
          refine h2.mono ?_
          rintro e wb ⟨rfl, hb⟩
          have KB := Lib.hid (step.out _ _ KA.out hb)
          clear h2 hb KA step
          go_wp2
          go_ret
          exact ⟨rfl, KB.out.1⟩
        | true =>
          rw [print_good12 hr] at h1
          obtain ⟨k1, k2, hps⟩ := HP.out hr
          rw [HT.out.1] at h1
          have hPq := HT.out.2
          clear hr HP hpr hrt
          go_wp2_with fail
          refine h1.mono ?_
          rintro e wa ⟨rfl, hb⟩
          have KA := Lib.hid (step.out _ _ K.out hb)
          obtain ⟨c0, c1, c2, _⟩ := KA.out.2.cells
          have h2 := hps wa
          clear h1 hb K hps
          go_wp2_with fail
          refine h2.mono ?_
          rintro e wb ⟨⟨bo, cb, rfl, hat⟩, hb⟩
          obtain ⟨wc, hwc⟩ : ∃ wc, wb.alloc (.cells #[.string X, .string Y, .slice bo n cb] 24) = wc := ⟨_, rfl⟩
          have lc : Below wb.heap.size wb wc := by rw [← hwc]; exact (Below.refl _ _).alloc (Nat.le_refl _) _
          have nc : TypAt wc wb.heap.size X Y bo n cb := by rw [← hwc]; exact typ_new wb _ _ _ _ _
          have KC := Lib.hid (step.out _ _ (step.out _ _ KA.out hb) lc)
          obtain ⟨c0, c1, c2, _⟩ := KC.out.2.cells
          obtain ⟨d0, d1, d2, _⟩ := nc.cells
          have h3 := hsm2.out wc bo cb ((hat.out.below lc (Nat.le_refl _)).up lc.size) ((Hat.out wc KC.out.1).up KC.out.1.size)
          clear h2 hb hat lc nc KA hsm2 Hat hPq k1 k2
          go_wp2_with fail
          refine h3.mono ?_
          rintro e wd ⟨rfl, hb⟩
          have KD := Lib.hid (step.out _ _ KC.out hb)
          clear h3 hb KC step
          go_wp2
          go_ret
          exact ⟨rfl, KD.out.1⟩
end Go.Proofs.YtafpifpgfpkckaaDoor
