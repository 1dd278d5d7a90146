/-
  MimeTrees: the walk.
-/
import Derived.Test.YtidlpdiephlkhaaGreatDoorZ44
import Derived.Test.YtidlpdiephlkhaaGreatDoorZFew13
import Derived.Test.YtidlpdiephlkhaaGreatDoorZ37
import Derived.Test.YtidlpdiephlkhaaGreatDoorZ35
import Derived.Test.YtidlpdiephlkhaaGreatDoorZ39
import Derived.Deep.RegionHeld3
namespace Go.Proofs.YtidlpdiephlkhaaGreatDoor
open Go.RowKit

/-- The two trees' boxes, and the trees. -/
structure TreK (w : World) (f0 X0 Y0 p0 D0 r0 f1 X1 Y1 p1 D1 r1 : Value) (q0 q1 : TreeM) (W : World) : Prop where
  b : Below w.heap.size w W
  z : w.heap.size + 2 ≤ W.heap.size
  a0 : PrtAt W w.heap.size f0 X0 Y0 p0 D0 r0
  a1 : PrtAt W (w.heap.size + 1) f1 X1 Y1 p1 D1 r1
  t0 : TreeAt W w.heap.size q0 f0 p0 r0
  t1 : TreeAt W w.heap.size q1 f1 p1 r1
theorem TreK.step {w W W' : World} {f0 X0 Y0 p0 D0 r0 f1 X1 Y1 p1 D1 r1 : Value} {q0 q1 : TreeM} (h : TreK w f0 X0 Y0 p0 D0 r0 f1 X1 Y1 p1 D1 r1 q0 q1 W) (k : Below W.heap.size W W') : TreK w f0 X0 Y0 p0 D0 r0 f1 X1 Y1 p1 D1 r1 q0 q1 W' :=
  ⟨h.b.trans (k.mono h.b.size), Nat.le_trans h.z k.size, h.a0.below k, h.a1.below k, h.t0.below k h.b.size, h.t1.below k h.b.size⟩

set_option maxRecDepth 100000 in
set_option maxHeartbeats 16000000 in
theorem mtrees_walk (q0 : TreeM) (fv0 pv0 rv0 : Value) (q1 : TreeM) (fv1 pv1 rv1 : Value) (m : Int) (w : World) (h0 : TreeAt w w.heap.size q0 fv0 pv0 rv0) (hb0 : ∀ x ∈ nodesM q0, BigN x) (h1 : TreeAt w w.heap.size q1 fv1 pv1 rv1) (hb1 : ∀ x ∈ nodesM q1, BigN x) (hm : w.cell? ⟨0, 0, none⟩ = some (.int .i64 m)) :
    Calls Tryz.prog 4 #[partV q0 fv0 pv0 rv0, partV q1 fv1 pv1 rv1] w fun e w' => e = .returned (.bool true) ∧ Below w.heap.size w w' := by
  obtain ⟨⟨a1, n1, c1, rfl⟩, ⟨a2, n2, c2, rfl⟩, ⟨a3, n3, c3, rfl⟩⟩ := h0.slices
  obtain ⟨⟨b1, m1, d1, rfl⟩, ⟨b2, m2, d2, rfl⟩, ⟨b3, m3, d3, rfl⟩⟩ := h1.slices
  obtain ⟨X0, hX0⟩ : ∃ X, textQ q0.typ.1 = X := ⟨_, rfl⟩
  obtain ⟨Y0, hY0⟩ : ∃ Y, textQ q0.typ.2.1 = Y := ⟨_, rfl⟩
  obtain ⟨D0, hD0⟩ : ∃ D, textQ q0.body = D := ⟨_, rfl⟩
  obtain ⟨X1, hX1⟩ : ∃ X, textQ q1.typ.1 = X := ⟨_, rfl⟩
  obtain ⟨Y1, hY1⟩ : ∃ Y, textQ q1.typ.2.1 = Y := ⟨_, rfl⟩
  obtain ⟨D1, hD1⟩ : ∃ D, textQ q1.body = D := ⟨_, rfl⟩
  unfold partV
  rw [hX0, hY0, hD0, hX1, hY1, hD1]
  obtain ⟨w0, hw0⟩ : ∃ W, (w.alloc (.cells #[.slice a1 n1 c1, .string X0, .string Y0, .slice a2 n2 c2, .string D0, .slice a3 n3 c3] 29)).alloc (.cells #[.slice b1 m1 d1, .string X1, .string Y1, .slice b2 m2 d2, .string D1, .slice b3 m3 d3] 29) = W := ⟨_, rfl⟩
  have K0 : Hid (TreK w (.slice a1 n1 c1) (.string X0) (.string Y0) (.slice a2 n2 c2) (.string D0) (.slice a3 n3 c3) (.slice b1 m1 d1) (.string X1) (.string Y1) (.slice b2 m2 d2) (.string D1) (.slice b3 m3 d3) q0 q1 w0) := Lib.hid (by
    have l1 : Below w.heap.size w (w.alloc (.cells #[.slice a1 n1 c1, .string X0, .string Y0, .slice a2 n2 c2, .string D0, .slice a3 n3 c3] 29)) := (Below.refl _ _).alloc (Nat.le_refl _) _
    have g1 := prt_new w (.slice a1 n1 c1) (.string X0) (.string Y0) (.slice a2 n2 c2) (.string D0) (.slice a3 n3 c3)
    have g2 := prt_new (w.alloc (.cells #[.slice a1 n1 c1, .string X0, .string Y0, .slice a2 n2 c2, .string D0, .slice a3 n3 c3] 29)) (.slice b1 m1 d1) (.string X1) (.string Y1) (.slice b2 m2 d2) (.string D1) (.slice b3 m3 d3)
    rw [World.size_alloc] at g2
    have l2 : Below w.heap.size w w0 := by rw [← hw0]; exact l1.alloc (by simp) _
    refine ⟨l2, by rw [← hw0]; simp, ?_, by rw [← hw0]; exact g2, h0.below l2 (Nat.le_refl _), h1.below l2 (Nat.le_refl _)⟩
    rw [← hw0]
    exact g1.below ((Below.refl _ _).alloc (Nat.le_refl _) _))
  have haw : Hid (∀ W, Below w.heap.size w W → Calls Tryz.prog 10 #[] W fun e w' => e = .returned (.bool true) ∧ Below W.heap.size W w') := Lib.hid fun W hW => awake13_any m W (bound_abide hm hW)
  have hfew0 : Hid (∀ W, TreeAt W w.heap.size q0 (.slice a1 n1 c1) (.slice a2 n2 c2) (.slice a3 n3 c3) → w.heap.size ≤ W.heap.size → Calls Tryz.prog 14 #[.agg #[.slice a1 n1 c1, .string X0, .string Y0, .slice a2 n2 c2, .string D0, .slice a3 n3 c3], .int .i64 0] W (FewPost13 q0 W)) := Lib.hid fun W ht hz => by
    have := few13_any w.heap.size 7 q0 _ _ _ 0 W rfl hb0 ht hz
    unfold partV at this
    rw [hX0, hY0, hD0] at this
    exact this
  have hfew1 : Hid (∀ W, TreeAt W w.heap.size q1 (.slice b1 m1 d1) (.slice b2 m2 d2) (.slice b3 m3 d3) → w.heap.size ≤ W.heap.size → Calls Tryz.prog 14 #[.agg #[.slice b1 m1 d1, .string X1, .string Y1, .slice b2 m2 d2, .string D1, .slice b3 m3 d3], .int .i64 0] W (FewPost13 q1 W)) := Lib.hid fun W ht hz => by
    have := few13_any w.heap.size 7 q1 _ _ _ 0 W rfl hb1 ht hz
    unfold partV at this
    rw [hX1, hY1, hD1] at this
    exact this
  have HX := Lib.hid (And.intro (And.intro hX0 (And.intro hY0 hD0)) (And.intro hX1 (And.intro hY1 hD1)))
  clear h0 h1 hb0 hb1 hX0 hY0 hD0 hX1 hY1 hD1 hm
  go_enter Tryz.func4, Tryz.ntmps4
  have k1 := haw.out w0 K0.out.b
  go_wp2_with fail
  refine k1.mono ?_
  rintro e w1 ⟨rfl, hb⟩
  have K1 := Lib.hid (K0.out.step hb)
  obtain ⟨x0, x1, x2, x3, x4, x5, -⟩ := K1.out.a0.cells
  have k2 := hfew0.out w1 K1.out.t0 K1.out.b.size
  clear k1 hb K0 haw hfew0 hw0
  go_wp2_with fail
  refine k2.mono ?_
  rintro e w2 ⟨b, rfl, hfb, hb⟩
  have K2 := Lib.hid (K1.out.step hb)
  obtain ⟨x0, x1, x2, x3, x4, x5, -⟩ := K2.out.a0.cells
  obtain ⟨y0, y1, y2, y3, y4, y5, -⟩ := K2.out.a1.cells
  clear k2 hb K1
  cases b with
  | false =>
    clear hfb
    go_wp2
    go_ret
    exact ⟨rfl, K2.out.b⟩
  | true =>
    have HF0 := Lib.hid (hfb rfl)
    have k3 := hfew1.out w2 K2.out.t1 K2.out.b.size
    clear hfb hfew1
    go_wp2_with fail
    refine k3.mono ?_
    rintro e w3 ⟨b, rfl, hfb, hb⟩
    have K3 := Lib.hid (K2.out.step hb)
    obtain ⟨x0, x1, x2, x3, x4, x5, -⟩ := K3.out.a0.cells
    obtain ⟨y0, y1, y2, y3, y4, y5, -⟩ := K3.out.a1.cells
    clear k3 hb K2
    cases b with
    | false =>
      clear hfb
      go_wp2
      go_ret
      exact ⟨rfl, K3.out.b⟩
    | true =>
      have HF1 := Lib.hid (hfb rfl)
      clear hfb
      obtain ⟨LV, hLV⟩ : ∃ LV, leavesM q0 = LV := ⟨_, rfl⟩
      obtain ⟨nl, hnl⟩ : ∃ nl, LV.length = nl := ⟨_, rfl⟩
      have hS : Hid (∀ W, Below w3.heap.size w3 W → W.cell? ⟨w.heap.size, 0, none⟩ = some (.slice a1 n1 c1) ∧ W.cell? ⟨w.heap.size, 1, none⟩ = some (.string X0) ∧ W.cell? ⟨w.heap.size, 2, none⟩ = some (.string Y0) ∧ W.cell? ⟨w.heap.size, 3, none⟩ = some (.slice a2 n2 c2) ∧ W.cell? ⟨w.heap.size, 4, none⟩ = some (.string D0) ∧ W.cell? ⟨w.heap.size, 5, none⟩ = some (.slice a3 n3 c3) ∧ W.cell? ⟨w.heap.size + 1, 0, none⟩ = some (.slice b1 m1 d1) ∧ W.cell? ⟨w.heap.size + 1, 1, none⟩ = some (.string X1) ∧ W.cell? ⟨w.heap.size + 1, 2, none⟩ = some (.string Y1) ∧ W.cell? ⟨w.heap.size + 1, 3, none⟩ = some (.slice b2 m2 d2) ∧ W.cell? ⟨w.heap.size + 1, 4, none⟩ = some (.string D1) ∧ W.cell? ⟨w.heap.size + 1, 5, none⟩ = some (.slice b3 m3 d3) ∧ Below w3.heap.size w3 W) := Lib.hid fun W hW => by
        have k := K3.out.step hW
        obtain ⟨g0, g1, g2, g3, g4, g5, -⟩ := k.a0.cells
        obtain ⟨h0, h1, h2, h3, h4, h5, -⟩ := k.a1.cells
        exact ⟨g0, g1, g2, g3, g4, g5, h0, h1, h2, h3, h4, h5, hW⟩
      have hc40 := HF0.out.1
      have hL : Hid (∀ W, Below w3.heap.size w3 W → Calls Tryz.prog 15 #[.agg #[.slice a1 n1 c1, .string X0, .string Y0, .slice a2 n2 c2, .string D0, .slice a3 n3 c3]] W fun e w' => ∃ la lc, e = .returned (.slice la nl lc) ∧ Hid (PartsAt w' w'.heap.size (.slice la nl lc) LV) ∧ Below w3.heap.size w3 w') := Lib.hid fun W hW => by
        have k := K3.out.step hW
        have := mleaves_any w.heap.size q0 _ _ _ W k.t0 k.b.size (by omega) (fun q hq => (HF0.out.2 q hq).ok)
        unfold partV at this
        rw [HX.out.1.1, HX.out.1.2.1, HX.out.1.2.2, hLV] at this
        refine this.mono ?_
        rintro e w' ⟨v, rfl, hv, hb⟩
        obtain ⟨la, lc, rfl, _⟩ := hv.slice
        rw [hnl] at hv ⊢
        exact ⟨la, lc, rfl, Lib.hid (hv.to (stay_self fun g _ hl => hl)), hW.trans (hb.mono hW.size)⟩
      have hM : Hid (∀ W, Below w3.heap.size w3 W → Calls Tryz.prog 16 #[.agg #[.slice a1 n1 c1, .string X0, .string Y0, .slice a2 n2 c2, .string D0, .slice a3 n3 c3]] W fun e w' => ∃ ma mc, e = .returned (.slice ma nl mc) ∧ Hid (PartsAt w' w'.heap.size (.slice ma nl mc) LV) ∧ Below W.heap.size W w' ∧ Below w3.heap.size w3 w') := Lib.hid fun W hW => by
        have k := K3.out.step hW
        have := r13leaves_any w.heap.size (countM q0) q0 (Nat.le_refl _) _ _ _ W k.t0 k.b.size (by omega)
        unfold partV at this
        rw [HX.out.1.1, HX.out.1.2.1, HX.out.1.2.2, hLV] at this
        refine this.mono ?_
        rintro e w' ⟨v, kids, rfl, ho, hk, he, hb⟩
        have hbz := k.b.size
        have hP : PartsP w' (fun g => True) v LV := by
          rw [← he]
          exact ho.parts (hk.to (stay_self fun g _ _ => trivial)) (fun g _ => trivial)
        obtain ⟨ma, mc, rfl, _⟩ := hP.slice
        rw [hnl] at hP ⊢
        exact ⟨ma, mc, rfl, Lib.hid (hP.to (stay_self fun g _ hl => hl)), hb, hW.trans (hb.mono hW.size)⟩
      have hS1 := Lib.hid (hS.out w3 (Below.refl _ _))
      have hDr : Hid (∀ W, Below w3.heap.size w3 W → W.drew.cell? ⟨w.heap.size, 0, none⟩ = some (.slice a1 n1 c1) ∧ W.drew.cell? ⟨w.heap.size, 1, none⟩ = some (.string X0) ∧ W.drew.cell? ⟨w.heap.size, 2, none⟩ = some (.string Y0) ∧ W.drew.cell? ⟨w.heap.size, 3, none⟩ = some (.slice a2 n2 c2) ∧ W.drew.cell? ⟨w.heap.size, 4, none⟩ = some (.string D0) ∧ W.drew.cell? ⟨w.heap.size, 5, none⟩ = some (.slice a3 n3 c3) ∧ W.drew.cell? ⟨w.heap.size + 1, 0, none⟩ = some (.slice b1 m1 d1) ∧ W.drew.cell? ⟨w.heap.size + 1, 1, none⟩ = some (.string X1) ∧ W.drew.cell? ⟨w.heap.size + 1, 2, none⟩ = some (.string Y1) ∧ W.drew.cell? ⟨w.heap.size + 1, 3, none⟩ = some (.slice b2 m2 d2) ∧ W.drew.cell? ⟨w.heap.size + 1, 4, none⟩ = some (.string D1) ∧ W.drew.cell? ⟨w.heap.size + 1, 5, none⟩ = some (.slice b3 m3 d3) ∧ Below w3.heap.size w3 W.drew) := Lib.hid fun W hW => hS.out _ hW.drew
      have hS2 := Lib.hid (hDr.out w3 (Below.refl _ _))
      have HLV := Lib.hid (And.intro hLV hnl)
      clear hLV hnl hc40
      go_wp2_with fail
      go_region_held3 (fun W => W.cell? ⟨w.heap.size, 0, none⟩ = some (.slice a1 n1 c1) ∧ W.cell? ⟨w.heap.size, 1, none⟩ = some (.string X0) ∧ W.cell? ⟨w.heap.size, 2, none⟩ = some (.string Y0) ∧ W.cell? ⟨w.heap.size, 3, none⟩ = some (.slice a2 n2 c2) ∧ W.cell? ⟨w.heap.size, 4, none⟩ = some (.string D0) ∧ W.cell? ⟨w.heap.size, 5, none⟩ = some (.slice a3 n3 c3) ∧ W.cell? ⟨w.heap.size + 1, 0, none⟩ = some (.slice b1 m1 d1) ∧ W.cell? ⟨w.heap.size + 1, 1, none⟩ = some (.string X1) ∧ W.cell? ⟨w.heap.size + 1, 2, none⟩ = some (.string Y1) ∧ W.cell? ⟨w.heap.size + 1, 3, none⟩ = some (.slice b2 m2 d2) ∧ W.cell? ⟨w.heap.size + 1, 4, none⟩ = some (.string D1) ∧ W.cell? ⟨w.heap.size + 1, 5, none⟩ = some (.slice b3 m3 d3) ∧ Below w3.heap.size w3 W)
        (first | assumption | exact hS1.out | exact hS2.out | exact hDr.out _ (by assumption) | exact hS.out _ (by assumption) | (trace_state; fail))
        (first
          | (go_at_call 15; (with_reducible refine (hL.out _ ?_).mono ?_); (first | assumption | exact hS1.out.2.2.2.2.2.2.2.2.2.2.2.2 | exact hS2.out.2.2.2.2.2.2.2.2.2.2.2.2); rintro e w4 ⟨la, lc, rfl, hA4, hS4⟩; have hS4d := Lib.hid (hS.out w4 hS4); have hS4e := Lib.hid (hS.out _ hS4.drew))
          | (go_at_call 16; (with_reducible refine (hM.out _ ?_).mono ?_); (first | assumption | exact hS4e.out.2.2.2.2.2.2.2.2.2.2.2.2 | exact hS4d.out.2.2.2.2.2.2.2.2.2.2.2.2); rintro e w5 ⟨ma, mc, rfl, hA5, hb5, hS5⟩; have hS5d := Lib.hid (hS.out w5 hS5); have hS5e := Lib.hid (hS.out _ hS5.drew)))
      have b45 : Below w4.heap.size w4 w5 := by first | exact hb5 | exact ((Below.refl w4.heap.size w4).drew).trans hb5
      have PA5 := Lib.hid (And.intro (hA4.out.to (stay_below b45 (Nat.le_refl _))) hA5.out)
      have hz45 := b45.size
      have PB5 : Hid (PartsAt w5 w5.heap.size (.slice la nl lc) LV ∧ PartsAt w5 w5.heap.size (.slice ma nl mc) LV) := Lib.hid ⟨PA5.out.1.to (stay_self fun g hg _ => by show g < w5.heap.size; have : g < w4.heap.size := hg; omega), PA5.out.2⟩
      have K5 := Lib.hid (K3.out.step hS5)
      obtain ⟨x0, x1, x2, x3, x4, x5, -⟩ := K5.out.a0.cells
      obtain ⟨y0, y1, y2, y3, y4, y5, -⟩ := K5.out.a1.cells
      clear hL hM hS hDr hS1 hS2 hA4 hS4 hS4d hS4e hA5 hb5 hS5d hS5e b45 PA5 hz45 hS5 K3
      have hS : Hid (∀ W, Below w5.heap.size w5 W → W.cell? ⟨w.heap.size, 0, none⟩ = some (.slice a1 n1 c1) ∧ W.cell? ⟨w.heap.size, 1, none⟩ = some (.string X0) ∧ W.cell? ⟨w.heap.size, 2, none⟩ = some (.string Y0) ∧ W.cell? ⟨w.heap.size, 3, none⟩ = some (.slice a2 n2 c2) ∧ W.cell? ⟨w.heap.size, 4, none⟩ = some (.string D0) ∧ W.cell? ⟨w.heap.size, 5, none⟩ = some (.slice a3 n3 c3) ∧ W.cell? ⟨w.heap.size + 1, 0, none⟩ = some (.slice b1 m1 d1) ∧ W.cell? ⟨w.heap.size + 1, 1, none⟩ = some (.string X1) ∧ W.cell? ⟨w.heap.size + 1, 2, none⟩ = some (.string Y1) ∧ W.cell? ⟨w.heap.size + 1, 3, none⟩ = some (.slice b2 m2 d2) ∧ W.cell? ⟨w.heap.size + 1, 4, none⟩ = some (.string D1) ∧ W.cell? ⟨w.heap.size + 1, 5, none⟩ = some (.slice b3 m3 d3) ∧ Below w5.heap.size w5 W) := Lib.hid fun W hW => by
        have k := K5.out.step hW
        obtain ⟨g0, g1, g2, g3, g4, g5, -⟩ := k.a0.cells
        obtain ⟨h0, h1, h2, h3, h4, h5, -⟩ := k.a1.cells
        exact ⟨g0, g1, g2, g3, g4, g5, h0, h1, h2, h3, h4, h5, hW⟩
      obtain ⟨cn, hcn⟩ : ∃ cn, countM q0 = cn := ⟨_, rfl⟩
      obtain ⟨bb, hbb⟩ : ∃ bb, decide (q0 = q1) = bb := ⟨_, rfl⟩
      obtain ⟨U, hU0⟩ : ∃ U, unfieldM q0.fields = U := ⟨_, rfl⟩
      obtain ⟨nu, hnu⟩ : ∃ nu, U.length = nu := ⟨_, rfl⟩
      have hc40 := HF0.out.1
      have hself := HF0.out.2 q0 (by rw [nodes_parts]; exact List.mem_cons_self ..)
      have hC1 : Hid (∀ W, Below w5.heap.size w5 W → Calls Tryz.prog 17 #[.agg #[.slice a1 n1 c1, .string X0, .string Y0, .slice a2 n2 c2, .string D0, .slice a3 n3 c3]] W fun e w' => e = .returned (.int .i64 cn) ∧ Below w5.heap.size w5 w') := Lib.hid fun W hW => by
        have k := K5.out.step hW
        have := mcount_any w.heap.size q0 _ _ _ W k.t0 k.b.size (by omega)
        unfold partV at this
        rw [HX.out.1.1, HX.out.1.2.1, HX.out.1.2.2, hcn] at this
        exact this.mono fun e w' ⟨h1, h2⟩ => ⟨h1, hW.trans (h2.mono hW.size)⟩
      have hC2 : Hid (∀ W, Below w5.heap.size w5 W → Calls Tryz.prog 18 #[.agg #[.slice a1 n1 c1, .string X0, .string Y0, .slice a2 n2 c2, .string D0, .slice a3 n3 c3]] W fun e w' => e = .returned (.int .i64 cn) ∧ Below w5.heap.size w5 w') := Lib.hid fun W hW => by
        have k := K5.out.step hW
        have := r13count_any w.heap.size (countM q0) q0 (Nat.le_refl _) _ _ _ W k.t0 k.b.size (by omega)
        unfold partV at this
        rw [HX.out.1.1, HX.out.1.2.1, HX.out.1.2.2, hcn] at this
        exact this.mono fun e w' ⟨h1, h2⟩ => ⟨h1, hW.trans (h2.mono hW.size)⟩
      have hQ1 : Hid (∀ W, Below w5.heap.size w5 W → Calls Tryz.prog 19 #[.agg #[.slice a1 n1 c1, .string X0, .string Y0, .slice a2 n2 c2, .string D0, .slice a3 n3 c3], .agg #[.slice b1 m1 d1, .string X1, .string Y1, .slice b2 m2 d2, .string D1, .slice b3 m3 d3]] W fun e w' => e = .returned (.bool bb) ∧ Below w5.heap.size w5 w') := Lib.hid fun W hW => by
        have k := K5.out.step hW
        have := msame_any w.heap.size (countM q0) q0 (Nat.le_refl _) q1 _ _ _ _ _ _ W k.t0 k.t1 k.b.size
        unfold partV at this
        rw [HX.out.1.1, HX.out.1.2.1, HX.out.1.2.2, HX.out.2.1, HX.out.2.2.1, HX.out.2.2.2, hbb] at this
        exact this.mono fun e w' ⟨h1, h2⟩ => ⟨h1, hW.trans (h2.mono hW.size)⟩
      have hQ2 : Hid (∀ W, Below w5.heap.size w5 W → Calls Tryz.prog 13 #[.agg #[.slice a1 n1 c1, .string X0, .string Y0, .slice a2 n2 c2, .string D0, .slice a3 n3 c3], .agg #[.slice b1 m1 d1, .string X1, .string Y1, .slice b2 m2 d2, .string D1, .slice b3 m3 d3]] W fun e w' => e = .returned (.bool bb) ∧ Below w5.heap.size w5 w') := Lib.hid fun W hW => by
        have k := K5.out.step hW
        have := r13same_any w.heap.size (countM q0) q0 (Nat.le_refl _) q1 _ _ _ _ _ _ W k.t0 k.t1 k.b.size
        unfold partV at this
        rw [HX.out.1.1, HX.out.1.2.1, HX.out.1.2.2, HX.out.2.1, HX.out.2.2.1, HX.out.2.2.2, hbb] at this
        exact this.mono fun e w' ⟨h1, h2⟩ => ⟨h1, hW.trans (h2.mono hW.size)⟩
      have hQ3 : Hid (∀ W, Below w5.heap.size w5 W → Calls Tryz.prog 19 #[.agg #[.slice a1 n1 c1, .string X0, .string Y0, .slice a2 n2 c2, .string D0, .slice a3 n3 c3], .agg #[.slice a1 n1 c1, .string X0, .string Y0, .slice a2 n2 c2, .string D0, .slice a3 n3 c3]] W fun e w' => e = .returned (.bool true) ∧ Below w5.heap.size w5 w') := Lib.hid fun W hW => by
        have k := K5.out.step hW
        have := msame_any w.heap.size (countM q0) q0 (Nat.le_refl _) q0 _ _ _ _ _ _ W k.t0 k.t0 k.b.size
        unfold partV at this
        rw [HX.out.1.1, HX.out.1.2.1, HX.out.1.2.2, decide_eq_true rfl] at this
        exact this.mono fun e w' ⟨h1, h2⟩ => ⟨h1, hW.trans (h2.mono hW.size)⟩
      have hU1 : Hid (∀ W, Below w5.heap.size w5 W → Calls Tryz.prog 21 #[.agg #[.slice a1 n1 c1, .string X0, .string Y0, .slice a2 n2 c2, .string D0, .slice a3 n3 c3]] W fun e w' => (∃ ua uc, e = .returned (.slice ua nu uc) ∧ Hid (FieldsAt w' w'.heap.size (.slice ua nu uc) U)) ∧ Below w5.heap.size w5 w') := Lib.hid fun W hW => by
        have k := K5.out.step hW
        have := munf_any w.heap.size q0 _ _ _ W k.t0 k.b.size (fun f hf => by have := hself.1.small f hf; omega) (by have := hself.1.1; omega)
        unfold partV at this
        rw [HX.out.1.1, HX.out.1.2.1, HX.out.1.2.2, hU0] at this
        refine this.mono ?_
        rintro e w' ⟨v, rfl, ho, hb⟩
        have hat := FieldsOwn.at ho
        obtain ⟨ua, uc, rfl, _⟩ := hat
        refine ⟨⟨ua, uc, by rw [hnu], Lib.hid ?_⟩, hW.trans (hb.mono hW.size)⟩
        have := FieldsOwn.at ho
        rw [hnu] at this
        exact this
      have hU2 : Hid (∀ W, Below w5.heap.size w5 W → Calls Tryz.prog 22 #[.agg #[.slice a1 n1 c1, .string X0, .string Y0, .slice a2 n2 c2, .string D0, .slice a3 n3 c3]] W fun e w' => (∃ ua uc, e = .returned (.slice ua nu uc) ∧ Hid (FieldsAt w' w'.heap.size (.slice ua nu uc) U ∧ Below W.heap.size W w')) ∧ Below w5.heap.size w5 w') := Lib.hid fun W hW => by
        have k := K5.out.step hW
        have := r13unf_any w.heap.size q0 _ _ _ W k.t0 k.b.size (fun f hf => by have := hself.1.small f hf; omega) (by have := hself.1.1; omega)
        unfold partV at this
        rw [HX.out.1.1, HX.out.1.2.1, HX.out.1.2.2, hU0] at this
        refine this.mono ?_
        rintro e w' ⟨v, rfl, ho, hb⟩
        have hat := FieldsOwn.at ho
        obtain ⟨ua, uc, rfl, _⟩ := hat
        refine ⟨⟨ua, uc, by rw [hnu], Lib.hid ⟨?_, hb⟩⟩, hW.trans (hb.mono hW.size)⟩
        have := FieldsOwn.at ho
        rw [hnu] at this
        exact this
      have hU3 : Hid (∀ W ua uc va vc, FieldsAt W W.heap.size (.slice ua nu uc) U → FieldsAt W W.heap.size (.slice va nu vc) U → Below w5.heap.size w5 W → Calls Tryz.prog 20 #[.slice ua nu uc, .slice va nu vc] W fun e w' => e = .returned (.bool true) ∧ Below w5.heap.size w5 w') := Lib.hid fun W ua uc va vc h1 h2 hW => by
        have := r10fields_any W.heap.size _ _ U U W h1 h2 (Nat.le_refl _)
        rw [decide_eq_true rfl] at this
        exact this.mono fun e w' ⟨h1, h2⟩ => ⟨h1, hW.trans (h2.mono hW.size)⟩
      have hS1 := Lib.hid (hS.out w5 (Below.refl _ _))
      have hT0 := Below.refl w5.heap.size w5
      have hT5 := (Below.refl w5.heap.size w5).drew
      have hDr : Hid (∀ W, Below w5.heap.size w5 W → W.drew.cell? ⟨w.heap.size, 0, none⟩ = some (.slice a1 n1 c1) ∧ W.drew.cell? ⟨w.heap.size, 1, none⟩ = some (.string X0) ∧ W.drew.cell? ⟨w.heap.size, 2, none⟩ = some (.string Y0) ∧ W.drew.cell? ⟨w.heap.size, 3, none⟩ = some (.slice a2 n2 c2) ∧ W.drew.cell? ⟨w.heap.size, 4, none⟩ = some (.string D0) ∧ W.drew.cell? ⟨w.heap.size, 5, none⟩ = some (.slice a3 n3 c3) ∧ W.drew.cell? ⟨w.heap.size + 1, 0, none⟩ = some (.slice b1 m1 d1) ∧ W.drew.cell? ⟨w.heap.size + 1, 1, none⟩ = some (.string X1) ∧ W.drew.cell? ⟨w.heap.size + 1, 2, none⟩ = some (.string Y1) ∧ W.drew.cell? ⟨w.heap.size + 1, 3, none⟩ = some (.slice b2 m2 d2) ∧ W.drew.cell? ⟨w.heap.size + 1, 4, none⟩ = some (.string D1) ∧ W.drew.cell? ⟨w.heap.size + 1, 5, none⟩ = some (.slice b3 m3 d3) ∧ Below w5.heap.size w5 W.drew) := Lib.hid fun W hW => hS.out _ hW.drew
      have hS2 := Lib.hid (hDr.out w5 (Below.refl _ _))
      have hbx : (bb != bb) = false := by simp
      clear hcn hbb hU0 hnu hc40 hself
      go_wp2_with fail
      go_region_held3 (fun W => W.cell? ⟨w.heap.size, 0, none⟩ = some (.slice a1 n1 c1) ∧ W.cell? ⟨w.heap.size, 1, none⟩ = some (.string X0) ∧ W.cell? ⟨w.heap.size, 2, none⟩ = some (.string Y0) ∧ W.cell? ⟨w.heap.size, 3, none⟩ = some (.slice a2 n2 c2) ∧ W.cell? ⟨w.heap.size, 4, none⟩ = some (.string D0) ∧ W.cell? ⟨w.heap.size, 5, none⟩ = some (.slice a3 n3 c3) ∧ W.cell? ⟨w.heap.size + 1, 0, none⟩ = some (.slice b1 m1 d1) ∧ W.cell? ⟨w.heap.size + 1, 1, none⟩ = some (.string X1) ∧ W.cell? ⟨w.heap.size + 1, 2, none⟩ = some (.string Y1) ∧ W.cell? ⟨w.heap.size + 1, 3, none⟩ = some (.slice b2 m2 d2) ∧ W.cell? ⟨w.heap.size + 1, 4, none⟩ = some (.string D1) ∧ W.cell? ⟨w.heap.size + 1, 5, none⟩ = some (.slice b3 m3 d3) ∧ Below w5.heap.size w5 W)
        (first | assumption | exact hS1.out | exact hS2.out | exact hS.out _ (by assumption) | exact hDr.out _ (by assumption) | (trace_state; fail))
        (first
          | (go_at_call 17; (with_reducible refine (hC1.out _ ?_).mono ?_); (first | assumption | skip); rintro e w6 ⟨rfl, hS6⟩; have hT6 := hS6.drew)
          | (go_at_call 18; (with_reducible refine (hC2.out _ ?_).mono ?_); (first | assumption | skip); rintro e w7 ⟨rfl, hS7⟩; have hT7 := hS7.drew)
          | (go_at_call 19; (with_reducible refine (hQ1.out _ ?_).mono ?_); (first | assumption | skip); rintro e w8 ⟨rfl, hS8⟩; have hT8 := hS8.drew)
          | (go_at_call 13; (with_reducible refine (hQ2.out _ ?_).mono ?_); (first | assumption | skip); rintro e w9 ⟨rfl, hS9⟩; have hT9 := hS9.drew)
          | (go_at_call 19; (with_reducible refine (hQ3.out _ ?_).mono ?_); (first | assumption | skip); rintro e w10 ⟨rfl, hS10⟩; have hT10 := hS10.drew)
          | (go_at_call 21; (with_reducible refine (hU1.out _ ?_).mono ?_); (first | assumption | skip); rintro e w11 ⟨⟨ua, uc, rfl, hUa⟩, hS11⟩; have hT11 := hS11.drew)
          | (go_at_call 22; (with_reducible refine (hU2.out _ ?_).mono ?_); (first | assumption | skip); rintro e w12 ⟨⟨va, vc, rfl, hVa⟩, hS12⟩; have hT12 := hS12.drew; have hV1 : Below w11.heap.size w11 w12 := (by first | exact hVa.out.2 | exact ((Below.refl w11.heap.size w11).drew).trans hVa.out.2); have hUb : FieldsAt w12 w12.heap.size (.slice ua nu uc) U := (hUa.out.below hV1 (Nat.le_refl _)).up hV1.size; have hVb : FieldsAt w12 w12.heap.size (.slice va nu vc) U := hVa.out.1; have hUd : FieldsAt w12.drew w12.drew.heap.size (.slice ua nu uc) U := hUb.below (Below.refl w12.heap.size w12).drew (Nat.le_refl _); have hVd : FieldsAt w12.drew w12.drew.heap.size (.slice va nu vc) U := hVb.below (Below.refl w12.heap.size w12).drew (Nat.le_refl _))
          | (go_at_call 20; (with_reducible refine (hU3.out _ _ _ _ _ ?_ ?_ ?_).mono ?_); (first | assumption | skip); (first | assumption | skip); (first | assumption | skip); rintro e w13 ⟨rfl, hS13⟩; have hT13 := hS13.drew))
      all_goals
        have BW := Lib.hid (K5.out.step hS13).b
        have Hz5 := Lib.hid hS13.size
        have PA : Hid (PartsAt w13 w5.heap.size (.slice la nl lc) LV ∧ PartsAt w13 w5.heap.size (.slice ma nl mc) LV) := Lib.hid ⟨PB5.out.1.to (stay_below hS13 (Nat.le_refl _)), PB5.out.2.to (stay_below hS13 (Nat.le_refl _))⟩
        have b1313 := Lib.hid (Below.refl w13.heap.size w13)
        have hlc : nl ≤ lc ∧ lc ≤ maxLen := by
          obtain ⟨_, _, e, g1, g2⟩ := PB5.out.1.slice
          cases e
          rw [HLV.out.2] at g1
          exact ⟨g1, g2⟩
        obtain ⟨hlc1, hlc2⟩ := hlc
        unfold maxLen at hlc2
        clear hC1 hC2 hQ1 hQ2 hQ3 hU1 hU2 hU3 hS hS1 hS2 hDr hT0 hT5 hT6 hT7 hT8 hT9 hT10 hT11 hT12 hT13 hS6 hS7 hS8 hS9 hS10 hS11 hS12 hS13 hUa hVa hV1 hUb hVb hUd hVd PB5 K5 x0 x1 x2 x3 x4 x5 y0 y1 y2 y3 y4 y5 hbx
        go_wp2
        go_loopw [7] (fun jv wr => ∃ j : Nat, j ≤ nl ∧ jv = .int .i64 j ∧ Hid (Below w13.heap.size w13 wr)) (fun jv _ => nl - (intOf jv).toNat)
        case atStart => exact ⟨0, by omega, rfl, b1313⟩
        case round =>
          obtain ⟨j, hj, rfl, hbr⟩ := hrel
          by_cases hjl : j < nl
          · have hjP : j < LV.length := by rw [HLV.out.2]; exact hjl
            have Hc : Hid (∀ W, Below w13.heap.size w13 W → TreeAt W w5.heap.size (.mk [] ([], [], []) [] LV) (.slice none 0 0) (.slice none 0 0) (.slice la nl lc) ∧ TreeAt W w5.heap.size (.mk [] ([], [], []) [] LV) (.slice none 0 0) (.slice none 0 0) (.slice ma nl mc)) := Lib.hid fun W hW =>
              ⟨⟨FieldsP.nil _ _, ParsP.nil _ _, PA.out.1.to (stay_below hW Hz5.out)⟩, ⟨FieldsP.nil _ _, ParsP.nil _ _, PA.out.2.to (stay_below hW Hz5.out)⟩⟩
            obtain ⟨hT1, hT2⟩ := Hc.out wr hbr.out
            obtain ⟨ga, oa, e1, f1, g1, e2, f2, g2, e3, f3, g3, rfl, hga, x0, x1, x2, x3, x4, x5, hk1⟩ := hT1.kid j hjP
            obtain ⟨gb, ob, e4, f4, g4, e5, f5, g5, e6, f6, g6, rfl, hgb, y0, y1, y2, y3, y4, y5, hk2⟩ := hT2.kid j hjP
            obtain ⟨p, hp⟩ : ∃ p, LV[j] = p := ⟨_, rfl⟩
            have hPj : (TreeM.parts (.mk [] ([], [], []) [] LV))[j]'hjP = p := hp
            rw [hPj] at x1 x2 x4 y1 y2 y4 hk1 hk2
            have hsame : Hid (∀ W, Below wr.heap.size wr W → Calls Tryz.prog 13 #[partV p (.slice e1 f1 g1) (.slice e2 f2 g2) (.slice e3 f3 g3), partV p (.slice e4 f4 g4) (.slice e5 f5 g5) (.slice e6 f6 g6)] W fun e w' => e = .returned (.bool true) ∧ Below W.heap.size W w') := Lib.hid fun W hW => by
              have hz := hbr.out.size
              have hz5 := Hz5.out
              have := r13same_any w5.heap.size (countM p) p (Nat.le_refl _) p _ _ _ _ _ _ W (hk1.below hW (by omega)) (hk2.below hW (by omega)) (by have := hW.size; omega)
              rw [decide_eq_true rfl] at this
              exact this
            unfold partV at hsame
            obtain ⟨X, hX⟩ : ∃ X, textQ p.typ.1 = X := ⟨_, rfl⟩
            obtain ⟨Y, hY⟩ : ∃ Y, textQ p.typ.2.1 = Y := ⟨_, rfl⟩
            obtain ⟨D, hD⟩ : ∃ D, textQ p.body = D := ⟨_, rfl⟩
            rw [hX, hY, hD] at hsame
            rw [hX] at x1 y1
            rw [hY] at x2 y2
            rw [hD] at x4 y4
            clear hT1 hT2 hk1 hk2 hX hY hD hPj hp hjP Hc
            have hS : Hid (∀ W, Below wr.heap.size wr W → W.cell? ⟨ga, oa + j * 6, none⟩ = some (.slice e1 f1 g1) ∧ W.cell? ⟨ga, oa + j * 6 + 1, none⟩ = some (.string X) ∧ W.cell? ⟨ga, oa + j * 6 + 2, none⟩ = some (.string Y) ∧ W.cell? ⟨ga, oa + j * 6 + 3, none⟩ = some (.slice e2 f2 g2) ∧ W.cell? ⟨ga, oa + j * 6 + 4, none⟩ = some (.string D) ∧ W.cell? ⟨ga, oa + j * 6 + 5, none⟩ = some (.slice e3 f3 g3) ∧ W.cell? ⟨gb, ob + j * 6, none⟩ = some (.slice e4 f4 g4) ∧ W.cell? ⟨gb, ob + j * 6 + 1, none⟩ = some (.string X) ∧ W.cell? ⟨gb, ob + j * 6 + 2, none⟩ = some (.string Y) ∧ W.cell? ⟨gb, ob + j * 6 + 3, none⟩ = some (.slice e5 f5 g5) ∧ W.cell? ⟨gb, ob + j * 6 + 4, none⟩ = some (.string D) ∧ W.cell? ⟨gb, ob + j * 6 + 5, none⟩ = some (.slice e6 f6 g6)) := Lib.hid fun W hW => by
              have hc : ∀ g o, g < w5.heap.size → W.cell? ⟨g, o, none⟩ = wr.cell? ⟨g, o, none⟩ := fun g o hg => hW.cell (p := ⟨g, o, none⟩) (by have := hbr.out.size; have := Hz5.out; show g < wr.heap.size; omega)
              exact ⟨(hc _ _ hga).trans x0, (hc _ _ hga).trans x1, (hc _ _ hga).trans x2, (hc _ _ hga).trans x3, (hc _ _ hga).trans x4, (hc _ _ hga).trans x5, (hc _ _ hgb).trans y0, (hc _ _ hgb).trans y1, (hc _ _ hgb).trans y2, (hc _ _ hgb).trans y3, (hc _ _ hgb).trans y4, (hc _ _ hgb).trans y5⟩
            have hS0 := Lib.hid (hS.out _ ((Below.refl wr.heap.size wr).drew))
            have hSw := Lib.hid (hS.out _ (Below.refl wr.heap.size wr))
            clear hga hgb
            go_wp2_with fail
            go_region_held3 (fun W => W.cell? ⟨ga, oa + j * 6, none⟩ = some (.slice e1 f1 g1) ∧ W.cell? ⟨ga, oa + j * 6 + 1, none⟩ = some (.string X) ∧ W.cell? ⟨ga, oa + j * 6 + 2, none⟩ = some (.string Y) ∧ W.cell? ⟨ga, oa + j * 6 + 3, none⟩ = some (.slice e2 f2 g2) ∧ W.cell? ⟨ga, oa + j * 6 + 4, none⟩ = some (.string D) ∧ W.cell? ⟨ga, oa + j * 6 + 5, none⟩ = some (.slice e3 f3 g3) ∧ W.cell? ⟨gb, ob + j * 6, none⟩ = some (.slice e4 f4 g4) ∧ W.cell? ⟨gb, ob + j * 6 + 1, none⟩ = some (.string X) ∧ W.cell? ⟨gb, ob + j * 6 + 2, none⟩ = some (.string Y) ∧ W.cell? ⟨gb, ob + j * 6 + 3, none⟩ = some (.slice e5 f5 g5) ∧ W.cell? ⟨gb, ob + j * 6 + 4, none⟩ = some (.string D) ∧ W.cell? ⟨gb, ob + j * 6 + 5, none⟩ = some (.slice e6 f6 g6))
              (first | assumption | exact hS0.out | exact hSw.out | exact hSc.out | (trace_state; fail))
              ((go_at_call 13; (with_reducible refine (hsame.out _ ((Below.refl wr.heap.size wr).drew)).mono ?_); rintro e w19 ⟨rfl, hb⟩; have hb7 := ((Below.refl wr.heap.size wr).drew).trans hb; have hSc := Lib.hid (hS.out _ hb7); have B9 := Lib.hid (hbr.out.trans (hb7.mono hbr.out.size)); clear hb hb7))
            clear hS hS0 hSw hSc hsame x0 x1 x2 x3 x4 x5 y0 y1 y2 y3 y4 y5
            go_wp2
            go_roundw
            case rel => exact ⟨j + 1, by omega, by go_num, B9⟩
            case measure => simp [intOf]; omega
          · obtain rfl : j = nl := by omega
            have Fin := Lib.hid (BW.out.trans (hbr.out.mono BW.out.size))
            go_wp2
            go_ret
            exact ⟨rfl, Fin.out⟩
end Go.Proofs.YtidlpdiephlkhaaGreatDoor
