/-
  CtypeTells: the walk.
-/
import Derived.Test.YtafpifpgfpkckaaDoorAwake12
import Derived.Test.YtafpifpgfpkckaaDoorFew12
import Derived.Test.YtafpifpgfpkckaaDoorArgs12
import Derived.Test.YtafpifpgfpkckaaDoorR12C
import Derived.Test.YtafpifpgfpkckaaDoorR12D
import Derived.Test.YtafpifpgfpkckaaDoorR12F
namespace Go.Proofs.YtafpifpgfpkckaaDoor
open Go.RowKit

theorem param_two (l : List ParC) (n : TextA) : ∃ V b, paramV l n = .tuple #[.string V, .bool b] := by
  unfold paramV
  cases h : findC l n with
  | none => exact ⟨_, _, rfl⟩
  | some p => exact ⟨_, _, rfl⟩

set_option maxRecDepth 100000 in
set_option maxHeartbeats 8000000 in
theorem ctells_walk (v : Value) (t : TypeC) (v2 : Value) (u : TypeC) (s q : ByteArray) (w : World) (hat : ParsAt w w.heap.size v t.2.2) (hsm : SmallC maxLen t) (hat2 : ParsAt w w.heap.size v2 u.2.2) (hsm2 : SmallC maxLen u) (ws : s.size ≤ maxLen) (wq : q.size ≤ maxLen) :
    Calls Tryd.prog 3 #[typeV t v, typeV u v2, .string s, .string q] w fun e w' => e = .returned (.bool true) ∧ Below w.heap.size w w' := by
  have haw := fun W => awake12_any W
  obtain ⟨ao, cap, rfl, hc1, hc2⟩ := hat.slice
  obtain ⟨uo, cap2, rfl, hd1, hd2⟩ := hat2.slice
  obtain ⟨X, hX⟩ : ∃ X, textQ t.1 = X := ⟨_, rfl⟩
  obtain ⟨Y, hY⟩ : ∃ Y, textQ t.2.1 = Y := ⟨_, rfl⟩
  obtain ⟨n, hn⟩ : ∃ n, t.2.2.length = n := ⟨_, rfl⟩
  obtain ⟨X2, hX2⟩ : ∃ X, textQ u.1 = X := ⟨_, rfl⟩
  obtain ⟨Y2, hY2⟩ : ∃ Y, textQ u.2.1 = Y := ⟨_, rfl⟩
  obtain ⟨k, hk⟩ : ∃ n, u.2.2.length = n := ⟨_, rfl⟩
  have Hat : Hid (∀ W, Below w.heap.size w W → ParsAt W w.heap.size (.slice ao n cap) t.2.2) := Lib.hid fun W hW => by rw [← hn]; exact hat.below hW (Nat.le_refl _)
  have Hat2 : Hid (∀ W, Below w.heap.size w W → ParsAt W w.heap.size (.slice uo k cap2) u.2.2) := Lib.hid fun W hW => by rw [← hk]; exact hat2.below hW (Nat.le_refl _)
  have hfew : Hid (∀ W, Below w.heap.size w W → Calls Tryd.prog 9 #[.agg #[.string X, .string Y, .slice ao n cap]] W (FewPostC t W)) := Lib.hid fun W hW => by
    have := few12_any w.heap.size _ t W (Hat.out W hW) hW.size hsm.1 hsm.2.1 hsm.2.2
    unfold typeV at this
    rw [hX, hY] at this
    exact this
  have hfew2 : Hid (∀ W, Below w.heap.size w W → Calls Tryd.prog 9 #[.agg #[.string X2, .string Y2, .slice uo k cap2]] W (FewPostC u W)) := Lib.hid fun W hW => by
    have := few12_any w.heap.size _ u W (Hat2.out W hW) hW.size hsm2.1 hsm2.2.1 hsm2.2.2
    unfold typeV at this
    rw [hX2, hY2] at this
    exact this
  obtain ⟨p, hp⟩ : ∃ p, rightC t = p := ⟨_, rfl⟩
  obtain ⟨d, hd⟩ : ∃ d, decide (t = u) = d := ⟨_, rfl⟩
  obtain ⟨A, hA⟩ : ∃ A, textQ (printC t).1 = A := ⟨_, rfl⟩
  obtain ⟨E, hE⟩ : ∃ E, (printC t).2 = E := ⟨_, rfl⟩
  have hpv : printV12 t = .tuple #[.string A, .int .i64 E] := by unfold printV12; rw [hA, hE]
  obtain ⟨V, b, hV⟩ := param_two t.2.2 q.data.toList
  have hrt : Hid (∀ W, Below w.heap.size w W → Calls Tryd.prog 17 #[.agg #[.string X, .string Y, .slice ao n cap]] W fun e w' => e = .returned (.bool p) ∧ Below W.heap.size W w') := Lib.hid fun W hW => by
    have := cright_any w.heap.size _ t W (Hat.out W hW) hW.size
    unfold typeV at this
    rw [hX, hY, hp] at this
    exact this
  have hpr : Hid (∀ W, Below w.heap.size w W → Calls Tryd.prog 10 #[.agg #[.string X, .string Y, .slice ao n cap]] W fun e w' => e = .returned (.tuple #[.string A, .int .i64 E]) ∧ Below W.heap.size W w') := Lib.hid fun W hW => by
    have := cprint_any w.heap.size _ t W (Hat.out W hW) hW.size
    unfold typeV at this
    rw [hX, hY, hpv] at this
    exact this
  have hsa : Hid (∀ W, Below w.heap.size w W → Calls Tryd.prog 19 #[.agg #[.string X, .string Y, .slice ao n cap], .agg #[.string X2, .string Y2, .slice uo k cap2]] W fun e w' => e = .returned (.bool d) ∧ Below W.heap.size W w') := Lib.hid fun W hW => by
    have := csame_any w.heap.size _ _ t u W (Hat.out W hW) (Hat2.out W hW) hW.size
    unfold typeV at this
    rw [hX, hY, hX2, hY2, hd] at this
    exact this
  have hra : Hid (∀ W, Below w.heap.size w W → Calls Tryd.prog 16 #[.agg #[.string X, .string Y, .slice ao n cap], .agg #[.string X2, .string Y2, .slice uo k cap2]] W fun e w' => e = .returned (.bool d) ∧ Below W.heap.size W w') := Lib.hid fun W hW => by
    have := r12same_any w.heap.size _ _ t u W (Hat.out W hW) (Hat2.out W hW) hW.size
    unfold typeV at this
    rw [hX, hY, hX2, hY2, hd] at this
    exact this
  have hrr : Hid (FewC t → ∀ W, Below w.heap.size w W → Calls Tryd.prog 18 #[.agg #[.string X, .string Y, .slice ao n cap]] W fun e w' => e = .returned (.bool p) ∧ Below W.heap.size W w') := Lib.hid fun hF W hW => by
    have := r12right_any w.heap.size _ t W (Hat.out W hW) hW.size (by have := hF.2.2.1; omega) (by have := hF.2.2.2; omega) (fun p hp => by have := hF.2.1 p hp; omega)
    unfold typeV at this
    rw [hX, hY, hp] at this
    exact this
  have hrp : Hid (FewC t → ∀ W, Below w.heap.size w W → Calls Tryd.prog 11 #[.agg #[.string X, .string Y, .slice ao n cap]] W fun e w' => e = .returned (.tuple #[.string A, .int .i64 E]) ∧ Below W.heap.size W w') := Lib.hid fun hF W hW => by
    have := r12print_any w.heap.size _ t W (Hat.out W hW) hW.size (by have := hF.2.2.1; omega) (by have := hF.2.2.2; omega) (fun p hp => by have := hF.2.1 p hp; omega)
    unfold typeV at this
    rw [hX, hY, hpv] at this
    exact this
  have hpa : Hid (FewC t → ∀ W, Below w.heap.size w W → Calls Tryd.prog 14 #[.agg #[.string X, .string Y, .slice ao n cap], .string q] W fun e w' => e = .returned (.tuple #[.string V, .bool b]) ∧ Below W.heap.size W w') := Lib.hid fun hF W hW => by
    have := cparam_any w.heap.size _ t q.data.toList W (Hat.out W hW) hW.size (fun p hp => by have := (hF.2.1 p hp).2; omega)
    unfold typeV at this
    rw [hX, hY, hV] at this
    exact this
  have hrm : Hid (∀ W, Below w.heap.size w W → Calls Tryd.prog 15 #[.agg #[.string X, .string Y, .slice ao n cap], .string q] W fun e w' => e = .returned (.tuple #[.string V, .bool b]) ∧ Below W.heap.size W w') := Lib.hid fun W hW => by
    have := r12param_any w.heap.size _ t q.data.toList W (Hat.out W hW) hW.size
    unfold typeV at this
    rw [hX, hY, hV] at this
    exact this
  obtain ⟨x, hx⟩ : ∃ x, (parseT s.data.toList).1 = x := ⟨_, rfl⟩
  obtain ⟨F, hF⟩ : ∃ F, (parseT s.data.toList).2 = F := ⟨_, rfl⟩
  obtain ⟨X1, hX1⟩ : ∃ X, textQ x.1 = X := ⟨_, rfl⟩
  obtain ⟨Y1, hY1⟩ : ∃ X, textQ x.2.1 = X := ⟨_, rfl⟩
  obtain ⟨m, hm⟩ : ∃ m, x.2.2.length = m := ⟨_, rfl⟩
  have hps : Hid (s.size ≤ 3000 → ∀ W, Calls Tryd.prog 12 #[.string s] W fun e w' => (∃ bo cb, e = .returned (.tuple #[.agg #[.string X1, .string Y1, .slice bo m cb], .int .i64 F]) ∧ Hid (ParsAt w' w'.heap.size (.slice bo m cb) x.2.2)) ∧ Below W.heap.size W w') := Lib.hid fun hs W => by
    refine (cparse_any s W (by omega)).mono ?_
    rintro e w' ⟨u, rfl, ha, hb⟩
    rw [hx] at ha ⊢
    rw [hF]
    obtain ⟨bo, cb, rfl, _⟩ := ha.slice
    rw [hm] at ha ⊢
    refine ⟨⟨bo, cb, ?_, Lib.hid ha⟩, hb⟩
    unfold typeV
    rw [hX1, hY1]
  have hrs : Hid (s.size ≤ 3000 → ∀ W, Calls Tryd.prog 13 #[.string s] W fun e w' => (∃ bo cb, e = .returned (.tuple #[.agg #[.string X1, .string Y1, .slice bo m cb], .int .i64 F]) ∧ Hid (ParsAt w' w'.heap.size (.slice bo m cb) x.2.2)) ∧ Below W.heap.size W w') := Lib.hid fun hs W => by
    refine (r12parse_any s W (by omega)).mono ?_
    rintro e w' ⟨u, rfl, ha, hb⟩
    rw [hx] at ha ⊢
    rw [hF]
    obtain ⟨bo, cb, rfl, _⟩ := ha.slice
    rw [hm] at ha ⊢
    refine ⟨⟨bo, cb, ?_, Lib.hid ha⟩, hb⟩
    unfold typeV
    rw [hX1, hY1]
  have hrx : Hid (∀ W bo cb bo2 cb2, ParsAt W W.heap.size (.slice bo m cb) x.2.2 → ParsAt W W.heap.size (.slice bo2 m cb2) x.2.2 → Calls Tryd.prog 16 #[.agg #[.string X1, .string Y1, .slice bo m cb], .agg #[.string X1, .string Y1, .slice bo2 m cb2]] W fun e w' => e = .returned (.bool true) ∧ Below W.heap.size W w') := Lib.hid fun W bo cb bo2 cb2 h1 h2 => by
    have := r12same_any W.heap.size _ _ x x W h1 h2 (Nat.le_refl _)
    unfold typeV at this
    rw [hX1, hY1, decide_eq_true rfl] at this
    exact this
  unfold maxLen at ws wq hc2 hd2
  rw [hn] at hc1
  rw [hk] at hd1
  unfold typeV
  rw [hX, hY, hn, hX2, hY2, hk]
  obtain ⟨w0, hw0⟩ : ∃ w0, (w.alloc (.cells #[.string X, .string Y, .slice ao n cap] 24)).alloc (.cells #[.string X2, .string Y2, .slice uo k cap2] 24) = w0 := ⟨_, rfl⟩
  have b0 : Below w.heap.size w w0 := by rw [← hw0]; exact ((Below.refl _ _).alloc (Nat.le_refl _) _).alloc (by simp) _
  have t0 : TypAt w0 w.heap.size X Y ao n cap := by rw [← hw0]; exact (typ_new w _ _ _ _ _).below ((Below.refl _ _).alloc (Nat.le_refl _) _)
  have u0 : TypAt w0 (w.heap.size + 1) X2 Y2 uo k cap2 := by
    rw [← hw0]
    have := typ_new (w.alloc (.cells #[.string X, .string Y, .slice ao n cap] 24)) X2 Y2 uo k cap2
    rw [World.size_alloc] at this
    exact this
  have K0 : Hid (Below w.heap.size w w0 ∧ TypAt w0 w.heap.size X Y ao n cap ∧ TypAt w0 (w.heap.size + 1) X2 Y2 uo k cap2) := Lib.hid ⟨b0, t0, u0⟩
  have step : Hid (∀ W W', (Below w.heap.size w W ∧ TypAt W w.heap.size X Y ao n cap ∧ TypAt W (w.heap.size + 1) X2 Y2 uo k cap2) → Below W.heap.size W W' → (Below w.heap.size w W' ∧ TypAt W' w.heap.size X Y ao n cap ∧ TypAt W' (w.heap.size + 1) X2 Y2 uo k cap2)) := Lib.hid fun W W' ⟨h1, h2, h3⟩ hb => ⟨h1.trans (hb.mono h1.size), h2.below hb, h3.below hb⟩
  obtain ⟨c0, c1, c2, _⟩ := t0.cells
  clear hat hat2 hsm hsm2 hX hY hn hX2 hY2 hk b0 t0 u0 hp hd hA hE hpv hV hx hF hX1 hY1 hm Hat Hat2
  go_enter Tryd.func3, Tryd.ntmps3
  go_wp2_with fail
  refine (haw _).mono ?_
  rintro e w1 ⟨rfl, hb⟩
  have K1 := Lib.hid (step.out _ _ K0.out hb)
  obtain ⟨c0, c1, c2, _⟩ := K1.out.2.1.cells
  have h1 := hfew.out w1 K1.out.1
  clear haw hb K0 hfew
  go_wp2_with fail
  refine h1.mono ?_
  rintro e w2 ⟨b1, rfl, hfb, hb⟩
  have K2 := Lib.hid (step.out _ _ K1.out hb)
  clear h1 hb K1
  cases b1 with
  | false =>
    go_wp2
    go_ret
    exact ⟨rfl, K2.out.1⟩
  | true =>
  have HF := Lib.hid (hfb rfl)
  obtain ⟨d0, d1, d2, _⟩ := K2.out.2.2.cells
  have h1 := hfew2.out w2 K2.out.1
  clear hfb hfew2
  go_wp2_with fail
  refine h1.mono ?_
  rintro e w3 ⟨b1, rfl, hfb, hb⟩
  have K3 := Lib.hid (step.out _ _ K2.out hb)
  clear h1 hb K2 hfb d0 d1 d2
  cases b1 with
  | false =>
    go_wp2
    go_ret
    exact ⟨rfl, K3.out.1⟩
  | true =>
  by_cases g1 : 3000 < s.size
  · go_wp2
    go_ret
    exact ⟨rfl, K3.out.1⟩
  by_cases g2 : 200 < q.size
  · go_wp2
    go_ret
    exact ⟨rfl, K3.out.1⟩
  have gs : s.size ≤ 3000 := by omega
  obtain ⟨c0, c1, c2, _⟩ := K3.out.2.1.cells
  have h1 := hpr.out w3 K3.out.1
  clear hpr
  go_wp2_with fail
  refine h1.mono ?_
  rintro e w4 ⟨rfl, hb⟩
  have K4 := Lib.hid (step.out _ _ K3.out hb)
  clear h1 hb K3
  obtain ⟨c0, c1, c2, _⟩ := K4.out.2.1.cells
  have h1 := hrp.out HF.out w4 K4.out.1
  clear hrp
  go_wp2_with fail
  refine h1.mono ?_
  rintro e w5 ⟨rfl, hb⟩
  have K5 := Lib.hid (step.out _ _ K4.out hb)
  clear h1 hb K4
  have h1 := hps.out gs w5
  clear hps
  go_wp2_with fail
  refine h1.mono ?_
  rintro e w6 ⟨⟨bo, cb, rfl, ha⟩, hb⟩
  obtain ⟨w7, hw7⟩ : ∃ wc, w6.alloc (.cells #[.string X1, .string Y1, .slice bo m cb] 24) = wc := ⟨_, rfl⟩
  have l7 : Below w6.heap.size w6 w7 := by rw [← hw7]; exact (Below.refl _ _).alloc (Nat.le_refl _) _
  obtain ⟨Px, hPx⟩ : ∃ P, w6.heap.size = P := ⟨_, rfl⟩
  have n7 : TypAt w7 Px X1 Y1 bo m cb := by rw [← hw7, ← hPx]; exact typ_new w6 _ _ _ _ _
  have K7 := Lib.hid (step.out _ _ (step.out _ _ K5.out hb) l7)
  have N7 : Hid (TypAt w7 Px X1 Y1 bo m cb ∧ ParsAt w7 w7.heap.size (.slice bo m cb) x.2.2) := Lib.hid ⟨n7, (ha.out.below l7 (Nat.le_refl _)).up l7.size⟩
  clear h1 hb K5 l7 n7 ha
  have h1 := hrs.out gs w7
  clear hrs
  go_wp2_with fail
  refine h1.mono ?_
  rintro e w8 ⟨⟨bo2, cb2, rfl, ha⟩, hb⟩
  obtain ⟨w9, hw9⟩ : ∃ wc, w8.alloc (.cells #[.string X1, .string Y1, .slice bo2 m cb2] 24) = wc := ⟨_, rfl⟩
  have l9 : Below w8.heap.size w8 w9 := by rw [← hw9]; exact (Below.refl _ _).alloc (Nat.le_refl _) _
  obtain ⟨Py, hPy⟩ : ∃ P, w8.heap.size = P := ⟨_, rfl⟩
  have n9 : TypAt w9 Py X1 Y1 bo2 m cb2 := by rw [← hw9, ← hPy]; exact typ_new w8 _ _ _ _ _
  have K9 := Lib.hid (step.out _ _ (step.out _ _ K7.out hb) l9)
  have N9 : Hid ((TypAt w9 Px X1 Y1 bo m cb ∧ ParsAt w9 w9.heap.size (.slice bo m cb) x.2.2) ∧ TypAt w9 Py X1 Y1 bo2 m cb2 ∧ ParsAt w9 w9.heap.size (.slice bo2 m cb2) x.2.2) := Lib.hid ⟨⟨(N7.out.1.below hb).below l9, (((N7.out.2.below hb (Nat.le_refl _)).up hb.size).below l9 (Nat.le_refl _)).up l9.size⟩, n9, (ha.out.below l9 (Nat.le_refl _)).up l9.size⟩
  clear h1 hb K7 N7 l9 n9 ha
  obtain ⟨c0, c1, c2, _⟩ := K9.out.2.1.cells
  have h1 := hpa.out HF.out w9 K9.out.1
  clear hpa
  go_wp2_with fail
  refine h1.mono ?_
  rintro e w10 ⟨rfl, hb⟩
  have K10 := Lib.hid (step.out _ _ K9.out hb)
  have N10 : Hid ((TypAt w10 Px X1 Y1 bo m cb ∧ ParsAt w10 w10.heap.size (.slice bo m cb) x.2.2) ∧ TypAt w10 Py X1 Y1 bo2 m cb2 ∧ ParsAt w10 w10.heap.size (.slice bo2 m cb2) x.2.2) := Lib.hid ⟨⟨N9.out.1.1.below hb, (N9.out.1.2.below hb (Nat.le_refl _)).up hb.size⟩, N9.out.2.1.below hb, (N9.out.2.2.below hb (Nat.le_refl _)).up hb.size⟩
  clear h1 hb K9 N9
  obtain ⟨c0, c1, c2, _⟩ := K10.out.2.1.cells
  have h1 := hrm.out w10 K10.out.1
  clear hrm
  go_wp2_with fail
  refine h1.mono ?_
  rintro e w11 ⟨rfl, hb⟩
  have K11 := Lib.hid (step.out _ _ K10.out hb)
  have N11 : Hid ((TypAt w11 Px X1 Y1 bo m cb ∧ ParsAt w11 w11.heap.size (.slice bo m cb) x.2.2) ∧ TypAt w11 Py X1 Y1 bo2 m cb2 ∧ ParsAt w11 w11.heap.size (.slice bo2 m cb2) x.2.2) := Lib.hid ⟨⟨N10.out.1.1.below hb, (N10.out.1.2.below hb (Nat.le_refl _)).up hb.size⟩, N10.out.2.1.below hb, (N10.out.2.2.below hb (Nat.le_refl _)).up hb.size⟩
  clear h1 hb K10 N10 hw7 hw9 hw0 hPx hPy
  have B11 : Hid (Below w.heap.size w w11) := Lib.hid K11.out.1
  have hS : Hid (∀ W, Below w11.heap.size w11 W → (W.cell? ⟨w.heap.size, 0, none⟩ = some (.string X) ∧ W.cell? ⟨w.heap.size, 1, none⟩ = some (.string Y) ∧ W.cell? ⟨w.heap.size, 2, none⟩ = some (.slice ao n cap) ∧ W.cell? ⟨(w.heap.size + 1), 0, none⟩ = some (.string X2) ∧ W.cell? ⟨(w.heap.size + 1), 1, none⟩ = some (.string Y2) ∧ W.cell? ⟨(w.heap.size + 1), 2, none⟩ = some (.slice uo k cap2) ∧ W.cell? ⟨Px, 0, none⟩ = some (.string X1) ∧ W.cell? ⟨Px, 1, none⟩ = some (.string Y1) ∧ W.cell? ⟨Px, 2, none⟩ = some (.slice bo m cb) ∧ W.cell? ⟨Py, 0, none⟩ = some (.string X1) ∧ W.cell? ⟨Py, 1, none⟩ = some (.string Y1) ∧ W.cell? ⟨Py, 2, none⟩ = some (.slice bo2 m cb2) ∧ Below w11.heap.size w11 W)) := Lib.hid fun W hW => by
    obtain ⟨a0, a1, a2, _⟩ := (K11.out.2.1.below hW).cells
    obtain ⟨b0, b1, b2, _⟩ := (K11.out.2.2.below hW).cells
    obtain ⟨x0, x1, x2, _⟩ := (N11.out.1.1.below hW).cells
    obtain ⟨y0, y1, y2, _⟩ := (N11.out.2.1.below hW).cells
    exact ⟨a0, a1, a2, b0, b1, b2, x0, x1, x2, y0, y1, y2, hW⟩
  have hq1 : Hid (∀ W, (W.cell? ⟨w.heap.size, 0, none⟩ = some (.string X) ∧ W.cell? ⟨w.heap.size, 1, none⟩ = some (.string Y) ∧ W.cell? ⟨w.heap.size, 2, none⟩ = some (.slice ao n cap) ∧ W.cell? ⟨(w.heap.size + 1), 0, none⟩ = some (.string X2) ∧ W.cell? ⟨(w.heap.size + 1), 1, none⟩ = some (.string Y2) ∧ W.cell? ⟨(w.heap.size + 1), 2, none⟩ = some (.slice uo k cap2) ∧ W.cell? ⟨Px, 0, none⟩ = some (.string X1) ∧ W.cell? ⟨Px, 1, none⟩ = some (.string Y1) ∧ W.cell? ⟨Px, 2, none⟩ = some (.slice bo m cb) ∧ W.cell? ⟨Py, 0, none⟩ = some (.string X1) ∧ W.cell? ⟨Py, 1, none⟩ = some (.string Y1) ∧ W.cell? ⟨Py, 2, none⟩ = some (.slice bo2 m cb2) ∧ Below w11.heap.size w11 W) → Calls Tryd.prog 16 #[.agg #[.string X1, .string Y1, .slice bo m cb], .agg #[.string X1, .string Y1, .slice bo2 m cb2]] W fun e w' => e = .returned (.bool true) ∧ (w'.cell? ⟨w.heap.size, 0, none⟩ = some (.string X) ∧ w'.cell? ⟨w.heap.size, 1, none⟩ = some (.string Y) ∧ w'.cell? ⟨w.heap.size, 2, none⟩ = some (.slice ao n cap) ∧ w'.cell? ⟨(w.heap.size + 1), 0, none⟩ = some (.string X2) ∧ w'.cell? ⟨(w.heap.size + 1), 1, none⟩ = some (.string Y2) ∧ w'.cell? ⟨(w.heap.size + 1), 2, none⟩ = some (.slice uo k cap2) ∧ w'.cell? ⟨Px, 0, none⟩ = some (.string X1) ∧ w'.cell? ⟨Px, 1, none⟩ = some (.string Y1) ∧ w'.cell? ⟨Px, 2, none⟩ = some (.slice bo m cb) ∧ w'.cell? ⟨Py, 0, none⟩ = some (.string X1) ∧ w'.cell? ⟨Py, 1, none⟩ = some (.string Y1) ∧ w'.cell? ⟨Py, 2, none⟩ = some (.slice bo2 m cb2) ∧ Below w11.heap.size w11 w')) := Lib.hid fun W hW => by
    have hB := hW.2.2.2.2.2.2.2.2.2.2.2.2
    have hB2 := B11.out.trans (hB.mono B11.out.size)
    refine (hrx.out W bo cb bo2 cb2 ((N11.out.1.2.below hB (Nat.le_refl _)).up hB.size) ((N11.out.2.2.below hB (Nat.le_refl _)).up hB.size)).mono ?_
    rintro e w' ⟨rfl, hb⟩
    exact ⟨rfl, hS.out _ (hB.trans (hb.mono hB.size))⟩
  have hq2 : Hid (∀ W, (W.cell? ⟨w.heap.size, 0, none⟩ = some (.string X) ∧ W.cell? ⟨w.heap.size, 1, none⟩ = some (.string Y) ∧ W.cell? ⟨w.heap.size, 2, none⟩ = some (.slice ao n cap) ∧ W.cell? ⟨(w.heap.size + 1), 0, none⟩ = some (.string X2) ∧ W.cell? ⟨(w.heap.size + 1), 1, none⟩ = some (.string Y2) ∧ W.cell? ⟨(w.heap.size + 1), 2, none⟩ = some (.slice uo k cap2) ∧ W.cell? ⟨Px, 0, none⟩ = some (.string X1) ∧ W.cell? ⟨Px, 1, none⟩ = some (.string Y1) ∧ W.cell? ⟨Px, 2, none⟩ = some (.slice bo m cb) ∧ W.cell? ⟨Py, 0, none⟩ = some (.string X1) ∧ W.cell? ⟨Py, 1, none⟩ = some (.string Y1) ∧ W.cell? ⟨Py, 2, none⟩ = some (.slice bo2 m cb2) ∧ Below w11.heap.size w11 W) → Calls Tryd.prog 17 #[.agg #[.string X, .string Y, .slice ao n cap]] W fun e w' => e = .returned (.bool p) ∧ (w'.cell? ⟨w.heap.size, 0, none⟩ = some (.string X) ∧ w'.cell? ⟨w.heap.size, 1, none⟩ = some (.string Y) ∧ w'.cell? ⟨w.heap.size, 2, none⟩ = some (.slice ao n cap) ∧ w'.cell? ⟨(w.heap.size + 1), 0, none⟩ = some (.string X2) ∧ w'.cell? ⟨(w.heap.size + 1), 1, none⟩ = some (.string Y2) ∧ w'.cell? ⟨(w.heap.size + 1), 2, none⟩ = some (.slice uo k cap2) ∧ w'.cell? ⟨Px, 0, none⟩ = some (.string X1) ∧ w'.cell? ⟨Px, 1, none⟩ = some (.string Y1) ∧ w'.cell? ⟨Px, 2, none⟩ = some (.slice bo m cb) ∧ w'.cell? ⟨Py, 0, none⟩ = some (.string X1) ∧ w'.cell? ⟨Py, 1, none⟩ = some (.string Y1) ∧ w'.cell? ⟨Py, 2, none⟩ = some (.slice bo2 m cb2) ∧ Below w11.heap.size w11 w')) := Lib.hid fun W hW => by
    have hB := hW.2.2.2.2.2.2.2.2.2.2.2.2
    have hB2 := B11.out.trans (hB.mono B11.out.size)
    refine (hrt.out W hB2).mono ?_
    rintro e w' ⟨rfl, hb⟩
    exact ⟨rfl, hS.out _ (hB.trans (hb.mono hB.size))⟩
  have hq3 : Hid (∀ W, (W.cell? ⟨w.heap.size, 0, none⟩ = some (.string X) ∧ W.cell? ⟨w.heap.size, 1, none⟩ = some (.string Y) ∧ W.cell? ⟨w.heap.size, 2, none⟩ = some (.slice ao n cap) ∧ W.cell? ⟨(w.heap.size + 1), 0, none⟩ = some (.string X2) ∧ W.cell? ⟨(w.heap.size + 1), 1, none⟩ = some (.string Y2) ∧ W.cell? ⟨(w.heap.size + 1), 2, none⟩ = some (.slice uo k cap2) ∧ W.cell? ⟨Px, 0, none⟩ = some (.string X1) ∧ W.cell? ⟨Px, 1, none⟩ = some (.string Y1) ∧ W.cell? ⟨Px, 2, none⟩ = some (.slice bo m cb) ∧ W.cell? ⟨Py, 0, none⟩ = some (.string X1) ∧ W.cell? ⟨Py, 1, none⟩ = some (.string Y1) ∧ W.cell? ⟨Py, 2, none⟩ = some (.slice bo2 m cb2) ∧ Below w11.heap.size w11 W) → Calls Tryd.prog 18 #[.agg #[.string X, .string Y, .slice ao n cap]] W fun e w' => e = .returned (.bool p) ∧ (w'.cell? ⟨w.heap.size, 0, none⟩ = some (.string X) ∧ w'.cell? ⟨w.heap.size, 1, none⟩ = some (.string Y) ∧ w'.cell? ⟨w.heap.size, 2, none⟩ = some (.slice ao n cap) ∧ w'.cell? ⟨(w.heap.size + 1), 0, none⟩ = some (.string X2) ∧ w'.cell? ⟨(w.heap.size + 1), 1, none⟩ = some (.string Y2) ∧ w'.cell? ⟨(w.heap.size + 1), 2, none⟩ = some (.slice uo k cap2) ∧ w'.cell? ⟨Px, 0, none⟩ = some (.string X1) ∧ w'.cell? ⟨Px, 1, none⟩ = some (.string Y1) ∧ w'.cell? ⟨Px, 2, none⟩ = some (.slice bo m cb) ∧ w'.cell? ⟨Py, 0, none⟩ = some (.string X1) ∧ w'.cell? ⟨Py, 1, none⟩ = some (.string Y1) ∧ w'.cell? ⟨Py, 2, none⟩ = some (.slice bo2 m cb2) ∧ Below w11.heap.size w11 w')) := Lib.hid fun W hW => by
    have hB := hW.2.2.2.2.2.2.2.2.2.2.2.2
    have hB2 := B11.out.trans (hB.mono B11.out.size)
    refine (hrr.out HF.out W hB2).mono ?_
    rintro e w' ⟨rfl, hb⟩
    exact ⟨rfl, hS.out _ (hB.trans (hb.mono hB.size))⟩
  have hq4 : Hid (∀ W, (W.cell? ⟨w.heap.size, 0, none⟩ = some (.string X) ∧ W.cell? ⟨w.heap.size, 1, none⟩ = some (.string Y) ∧ W.cell? ⟨w.heap.size, 2, none⟩ = some (.slice ao n cap) ∧ W.cell? ⟨(w.heap.size + 1), 0, none⟩ = some (.string X2) ∧ W.cell? ⟨(w.heap.size + 1), 1, none⟩ = some (.string Y2) ∧ W.cell? ⟨(w.heap.size + 1), 2, none⟩ = some (.slice uo k cap2) ∧ W.cell? ⟨Px, 0, none⟩ = some (.string X1) ∧ W.cell? ⟨Px, 1, none⟩ = some (.string Y1) ∧ W.cell? ⟨Px, 2, none⟩ = some (.slice bo m cb) ∧ W.cell? ⟨Py, 0, none⟩ = some (.string X1) ∧ W.cell? ⟨Py, 1, none⟩ = some (.string Y1) ∧ W.cell? ⟨Py, 2, none⟩ = some (.slice bo2 m cb2) ∧ Below w11.heap.size w11 W) → Calls Tryd.prog 19 #[.agg #[.string X, .string Y, .slice ao n cap], .agg #[.string X2, .string Y2, .slice uo k cap2]] W fun e w' => e = .returned (.bool d) ∧ (w'.cell? ⟨w.heap.size, 0, none⟩ = some (.string X) ∧ w'.cell? ⟨w.heap.size, 1, none⟩ = some (.string Y) ∧ w'.cell? ⟨w.heap.size, 2, none⟩ = some (.slice ao n cap) ∧ w'.cell? ⟨(w.heap.size + 1), 0, none⟩ = some (.string X2) ∧ w'.cell? ⟨(w.heap.size + 1), 1, none⟩ = some (.string Y2) ∧ w'.cell? ⟨(w.heap.size + 1), 2, none⟩ = some (.slice uo k cap2) ∧ w'.cell? ⟨Px, 0, none⟩ = some (.string X1) ∧ w'.cell? ⟨Px, 1, none⟩ = some (.string Y1) ∧ w'.cell? ⟨Px, 2, none⟩ = some (.slice bo m cb) ∧ w'.cell? ⟨Py, 0, none⟩ = some (.string X1) ∧ w'.cell? ⟨Py, 1, none⟩ = some (.string Y1) ∧ w'.cell? ⟨Py, 2, none⟩ = some (.slice bo2 m cb2) ∧ Below w11.heap.size w11 w')) := Lib.hid fun W hW => by
    have hB := hW.2.2.2.2.2.2.2.2.2.2.2.2
    have hB2 := B11.out.trans (hB.mono B11.out.size)
    refine (hsa.out W hB2).mono ?_
    rintro e w' ⟨rfl, hb⟩
    exact ⟨rfl, hS.out _ (hB.trans (hb.mono hB.size))⟩
  have hq5 : Hid (∀ W, (W.cell? ⟨w.heap.size, 0, none⟩ = some (.string X) ∧ W.cell? ⟨w.heap.size, 1, none⟩ = some (.string Y) ∧ W.cell? ⟨w.heap.size, 2, none⟩ = some (.slice ao n cap) ∧ W.cell? ⟨(w.heap.size + 1), 0, none⟩ = some (.string X2) ∧ W.cell? ⟨(w.heap.size + 1), 1, none⟩ = some (.string Y2) ∧ W.cell? ⟨(w.heap.size + 1), 2, none⟩ = some (.slice uo k cap2) ∧ W.cell? ⟨Px, 0, none⟩ = some (.string X1) ∧ W.cell? ⟨Px, 1, none⟩ = some (.string Y1) ∧ W.cell? ⟨Px, 2, none⟩ = some (.slice bo m cb) ∧ W.cell? ⟨Py, 0, none⟩ = some (.string X1) ∧ W.cell? ⟨Py, 1, none⟩ = some (.string Y1) ∧ W.cell? ⟨Py, 2, none⟩ = some (.slice bo2 m cb2) ∧ Below w11.heap.size w11 W) → Calls Tryd.prog 16 #[.agg #[.string X, .string Y, .slice ao n cap], .agg #[.string X2, .string Y2, .slice uo k cap2]] W fun e w' => e = .returned (.bool d) ∧ (w'.cell? ⟨w.heap.size, 0, none⟩ = some (.string X) ∧ w'.cell? ⟨w.heap.size, 1, none⟩ = some (.string Y) ∧ w'.cell? ⟨w.heap.size, 2, none⟩ = some (.slice ao n cap) ∧ w'.cell? ⟨(w.heap.size + 1), 0, none⟩ = some (.string X2) ∧ w'.cell? ⟨(w.heap.size + 1), 1, none⟩ = some (.string Y2) ∧ w'.cell? ⟨(w.heap.size + 1), 2, none⟩ = some (.slice uo k cap2) ∧ w'.cell? ⟨Px, 0, none⟩ = some (.string X1) ∧ w'.cell? ⟨Px, 1, none⟩ = some (.string Y1) ∧ w'.cell? ⟨Px, 2, none⟩ = some (.slice bo m cb) ∧ w'.cell? ⟨Py, 0, none⟩ = some (.string X1) ∧ w'.cell? ⟨Py, 1, none⟩ = some (.string Y1) ∧ w'.cell? ⟨Py, 2, none⟩ = some (.slice bo2 m cb2) ∧ Below w11.heap.size w11 w')) := Lib.hid fun W hW => by
    have hB := hW.2.2.2.2.2.2.2.2.2.2.2.2
    have hB2 := B11.out.trans (hB.mono B11.out.size)
    refine (hra.out W hB2).mono ?_
    rintro e w' ⟨rfl, hb⟩
    exact ⟨rfl, hS.out _ (hB.trans (hb.mono hB.size))⟩
  have hDr : Hid (∀ W, (W.cell? ⟨w.heap.size, 0, none⟩ = some (.string X) ∧ W.cell? ⟨w.heap.size, 1, none⟩ = some (.string Y) ∧ W.cell? ⟨w.heap.size, 2, none⟩ = some (.slice ao n cap) ∧ W.cell? ⟨(w.heap.size + 1), 0, none⟩ = some (.string X2) ∧ W.cell? ⟨(w.heap.size + 1), 1, none⟩ = some (.string Y2) ∧ W.cell? ⟨(w.heap.size + 1), 2, none⟩ = some (.slice uo k cap2) ∧ W.cell? ⟨Px, 0, none⟩ = some (.string X1) ∧ W.cell? ⟨Px, 1, none⟩ = some (.string Y1) ∧ W.cell? ⟨Px, 2, none⟩ = some (.slice bo m cb) ∧ W.cell? ⟨Py, 0, none⟩ = some (.string X1) ∧ W.cell? ⟨Py, 1, none⟩ = some (.string Y1) ∧ W.cell? ⟨Py, 2, none⟩ = some (.slice bo2 m cb2) ∧ Below w11.heap.size w11 W) → (W.drew.cell? ⟨w.heap.size, 0, none⟩ = some (.string X) ∧ W.drew.cell? ⟨w.heap.size, 1, none⟩ = some (.string Y) ∧ W.drew.cell? ⟨w.heap.size, 2, none⟩ = some (.slice ao n cap) ∧ W.drew.cell? ⟨(w.heap.size + 1), 0, none⟩ = some (.string X2) ∧ W.drew.cell? ⟨(w.heap.size + 1), 1, none⟩ = some (.string Y2) ∧ W.drew.cell? ⟨(w.heap.size + 1), 2, none⟩ = some (.slice uo k cap2) ∧ W.drew.cell? ⟨Px, 0, none⟩ = some (.string X1) ∧ W.drew.cell? ⟨Px, 1, none⟩ = some (.string Y1) ∧ W.drew.cell? ⟨Px, 2, none⟩ = some (.slice bo m cb) ∧ W.drew.cell? ⟨Py, 0, none⟩ = some (.string X1) ∧ W.drew.cell? ⟨Py, 1, none⟩ = some (.string Y1) ∧ W.drew.cell? ⟨Py, 2, none⟩ = some (.slice bo2 m cb2) ∧ Below w11.heap.size w11 W.drew)) := Lib.hid fun W hW => hS.out _ hW.2.2.2.2.2.2.2.2.2.2.2.2.drew
  have hS0 := hS.out _ (Below.refl _ w11)
  have hS00 := Lib.hid (hDr.out _ hS0)
  have HS0 := Lib.hid hS0
  clear hS hrx hrt hrr hsa hra K11 N11 hS0 HF step c0 c1 c2
  go_wp2_with fail
  go_region_held3 (fun W => (W.cell? ⟨w.heap.size, 0, none⟩ = some (.string X) ∧ W.cell? ⟨w.heap.size, 1, none⟩ = some (.string Y) ∧ W.cell? ⟨w.heap.size, 2, none⟩ = some (.slice ao n cap) ∧ W.cell? ⟨(w.heap.size + 1), 0, none⟩ = some (.string X2) ∧ W.cell? ⟨(w.heap.size + 1), 1, none⟩ = some (.string Y2) ∧ W.cell? ⟨(w.heap.size + 1), 2, none⟩ = some (.slice uo k cap2) ∧ W.cell? ⟨Px, 0, none⟩ = some (.string X1) ∧ W.cell? ⟨Px, 1, none⟩ = some (.string Y1) ∧ W.cell? ⟨Px, 2, none⟩ = some (.slice bo m cb) ∧ W.cell? ⟨Py, 0, none⟩ = some (.string X1) ∧ W.cell? ⟨Py, 1, none⟩ = some (.string Y1) ∧ W.cell? ⟨Py, 2, none⟩ = some (.slice bo2 m cb2) ∧ Below w11.heap.size w11 W))
    (first | assumption | exact HS0.out | exact hS00.out | exact hDr.out _ (by assumption) | (trace_state; fail))
    (first
      | (go_at_call 17; (with_reducible refine (hq2.out _ ?_).mono ?_); assumption; rintro e w21 ⟨rfl, hS21⟩)
      | (go_at_call 18; (with_reducible refine (hq3.out _ ?_).mono ?_); assumption; rintro e w22 ⟨rfl, hS22⟩)
      | (go_at_call 19; (with_reducible refine (hq4.out _ ?_).mono ?_); assumption; rintro e w23 ⟨rfl, hS23⟩)
      | (go_at_call 16; (with_reducible refine (hq5.out _ ?_).mono ?_); assumption; rintro e w24 ⟨rfl, hS24⟩)
      | (go_at_call 16; (with_reducible refine (hq1.out _ ?_).mono ?_); (first | assumption | exact HS0.out | exact hS00.out); rintro e w20 ⟨rfl, hS20⟩))
  all_goals
    have hbn := hS24.2.2.2.2.2.2.2.2.2.2.2.2
    clear hq1 hq2 hq3 hq4 hq5 hDr hS00 HS0
    go_wp2
    go_ret
    exact ⟨rfl, B11.out.trans (hbn.mono B11.out.size)⟩
end Go.Proofs.YtafpifpgfpkckaaDoor
