/-
  CtypeMore: the walk.
-/
import Derived.Test.YtafpifpgfpkckaaDoorCAppF
namespace Go.Proofs.YtafpifpgfpkckaaDoor
open Go.RowKit

theorem own_sliceN {w : World} {B : Nat} {v : Value} {l : List ParC} (h : ParsOwn w B v l) : ∃ ao m cap, v = .slice ao m cap ∧ Hid (m = l.length) := by
  obtain ⟨ao, cap, rfl⟩ := own_slice h
  exact ⟨ao, _, cap, rfl, Lib.hid rfl⟩
theorem right_init {t : TypeC} (ht : rightC t = true) (h0 : t.2.2.length ≠ 0) : rightC (t.1, t.2.1, t.2.2.take (t.2.2.length - 1)) = true := by
  have hne : t.2.2 ≠ [] := fun e => h0 (by rw [e]; rfl)
  rw [← List.dropLast_eq_take]
  exact right_snoc (p := t.2.2.getLast hne) ht (List.dropLast_concat_getLast hne).symm

set_option maxRecDepth 100000 in
set_option maxHeartbeats 8000000 in
theorem cmore_walk (v : Value) (t : TypeC) (f : ParC) (w : World) (hat : ParsAt w w.heap.size v t.2.2) (hsm : SmallC maxLen t) (hnil : NilC v) (wf : f.1.length ≤ maxLen ∧ f.2.length ≤ maxLen) :
    Calls Tryd.prog 5 #[typeV t v, .agg #[.string (textQ f.1), .string (textQ f.2)]] w fun e w' => e = .returned (.bool true) ∧ Below w.heap.size w w' := by
  have haw := fun W => awake12_any W
  obtain ⟨ao, cap, rfl, hc1, hc2⟩ := hat.slice
  obtain ⟨l, hl⟩ : ∃ l, t.2.2 = l := ⟨_, rfl⟩
  obtain ⟨X, hX⟩ : ∃ X, textQ t.1 = X := ⟨_, rfl⟩
  obtain ⟨Y, hY⟩ : ∃ Y, textQ t.2.1 = Y := ⟨_, rfl⟩
  obtain ⟨n, hn⟩ : ∃ n, t.2.2.length = n := ⟨_, rfl⟩
  obtain ⟨N, hN⟩ : ∃ X, textQ f.1 = X := ⟨_, rfl⟩
  obtain ⟨V, hV⟩ : ∃ X, textQ f.2 = X := ⟨_, rfl⟩
  have hNs : N.size = f.1.length := by rw [← hN]; rfl
  have hVs : V.size = f.2.length := by rw [← hV]; rfl
  rw [← hNs, ← hVs] at wf
  obtain ⟨wf1, wf2⟩ := wf
  have Hat : Hid (∀ W, Below w.heap.size w W → ParsAt W w.heap.size (.slice ao n cap) t.2.2) := Lib.hid fun W hW => by rw [← hn]; exact hat.below hW (Nat.le_refl _)
  have hfew : Hid (∀ W, Below w.heap.size w W → Calls Tryd.prog 9 #[.agg #[.string X, .string Y, .slice ao n cap]] W (FewPostC t W)) := Lib.hid fun W hW => by
    have := few12_any w.heap.size _ t W (Hat.out W hW) hW.size hsm.1 hsm.2.1 hsm.2.2
    unfold typeV at this
    rw [hX, hY] at this
    exact this
  have hrt : Hid (∀ W, Below w.heap.size w W → Calls Tryd.prog 17 #[.agg #[.string X, .string Y, .slice ao n cap]] W fun e w' => e = .returned (.bool (rightC t)) ∧ Below W.heap.size W w') := Lib.hid fun W hW => by
    have := cright_any w.heap.size _ t W (Hat.out W hW) hW.size
    unfold typeV at this
    rw [hX, hY] at this
    exact this
  have hpr : Hid (∀ W, Below w.heap.size w W → Calls Tryd.prog 10 #[.agg #[.string X, .string Y, .slice ao n cap]] W fun e w' => e = .returned (printV12 t) ∧ Below W.heap.size W w') := Lib.hid fun W hW => by
    have := cprint_any w.heap.size _ t W (Hat.out W hW) hW.size
    unfold typeV at this
    rw [hX, hY] at this
    exact this
  -- the type with a parameter more
  have hprU : Hid (∀ W bo m cb, ParsAt W W.heap.size (.slice bo m cb) (l ++ [f]) → Calls Tryd.prog 10 #[.agg #[.string X, .string Y, .slice bo m cb]] W fun e w' => e = .returned (printV12 (t.1, t.2.1, l ++ [f])) ∧ Below W.heap.size W w') := Lib.hid fun W bo m cb hW => by
    have := cprint_any W.heap.size _ (t.1, t.2.1, l ++ [f]) W hW (Nat.le_refl _)
    unfold typeV at this
    rw [hX, hY] at this
    exact this
  have hpaU : Hid (rightC (t.1, t.2.1, l ++ [f]) = true → ∀ W bo m cb, ParsAt W W.heap.size (.slice bo m cb) (l ++ [f]) → Calls Tryd.prog 14 #[.agg #[.string X, .string Y, .slice bo m cb], .string N] W fun e w' => e = .returned (.tuple #[.string V, .bool true]) ∧ Below W.heap.size W w') := Lib.hid fun hr W bo m cb hW => by
    have hp := right_parts hr
    have := cparam_any W.heap.size _ (t.1, t.2.1, l ++ [f]) f.1 W hW (Nat.le_refl _) (fun p hp2 => by have := (hp.2.2.2 p hp2).2; omega)
    unfold typeV paramV at this
    have hh : hasC l f.1 = false := by
      have hr2 := hr
      unfold rightC at hr2
      rw [show ((t.1, t.2.1, l ++ [f]) : TypeC).2.2 = l ++ [f] from rfl, pars_snoc] at hr2
      simp only [Bool.and_eq_true, decide_eq_true_eq, Bool.not_eq_true'] at hr2
      exact hr2.2.2.2.2.2.2
    rw [hX, hY, hN, show ((t.1, t.2.1, l ++ [f]) : TypeC).2.2 = l ++ [f] from rfl, find_snoc hh] at this
    rw [← hV]
    exact this
  obtain ⟨A, hA⟩ : ∃ A, textQ (textC t) = A := ⟨_, rfl⟩
  obtain ⟨U, hU⟩ : ∃ A, textQ (textC (t.1, t.2.1, l ++ [f])) = A := ⟨_, rfl⟩
  have hUA : U.extract 0 A.size = A ∧ A.size < U.size := by
    have e : textC (t.1, t.2.1, l ++ [f]) = textC t ++ parTextC f := by
      unfold textC
      rw [hl]
      simp
    have e2 : U.data.toList = textC t ++ parTextC f := by rw [← hU, ← e]; rfl
    have e3 : A.size = (textC t).length := by rw [← hA]; rfl
    constructor
    · rw [cut_text, e2, e3]
      simp [hA]
    · have e4 : U.size = U.data.toList.length := rfl
      rw [e4, e2, e3, List.length_append]
      unfold parTextC
      simp only [List.length_append, List.length_cons]
      omega
  have HU := Lib.hid hUA
  obtain ⟨ao9, m9, cap9, h9⟩ : ∃ a m c, sliced ao 0 (n - 1) cap 2 = .slice a m c := ⟨_, _, _, rfl⟩
  rw [hn] at hc1
  unfold maxLen at hc2 wf1 wf2
  have hlast : Hid (rightC t = true → n ≠ 0 → IntKind.i64.wrap ((n : Int) - 1) = (n : Int) - 1 ∧ (∀ W : World, (Instr.slice 22 (.slice ao n cap) none (some (.int .i64 ((n : Int) - 1))) none).run Tryd.prog W = .ok (.slice ao9 m9 cap9) W) ∧
      ∀ W, Below w.heap.size w W → Calls Tryd.prog 17 #[.agg #[.string X, .string Y, .slice ao9 m9 cap9]] W fun e w' => e = .returned (.bool true) ∧ Below W.heap.size W w') := Lib.hid fun hr h0 => by
    refine ⟨by rw [IntWalk.i64_in _ (by omega)], fun W => ?_, fun W hW => ?_⟩
    · rw [run_par_head ao n cap (n - 1) ((n : Int) - 1) (by omega) (by omega) W, h9]
    · have hh := pars_head (Hat.out W hW) hn (Nat.sub_le n 1)
      rw [h9] at hh
      have := cright_any w.heap.size _ (t.1, t.2.1, t.2.2.take (n - 1)) W hh hW.size
      unfold typeV at this
      rw [hX, hY] at this
      rw [← hn] at this
      rw [right_init hr (by rw [hn]; exact h0)] at this
      exact this
  have hgd := Lib.hid (print_good12 (t := t))
  have hgdU := Lib.hid (print_good12 (t := (t.1, t.2.1, l ++ [f])))
  have hbdU := Lib.hid (print_bad12 (t := (t.1, t.2.1, l ++ [f])))
  rw [hA] at hgd
  rw [hU] at hgdU
  have HNV := Lib.hid (And.intro hN hV)
  have Hl := Lib.hid (And.intro hl (show l.length = n by rw [← hl, hn]))
  have Hnil : Hid (NilC (.slice ao n cap)) := Lib.hid (by rw [← hn]; exact hnil)
  unfold typeV
  rw [hX, hY, hn, hN, hV]
  obtain ⟨w0, hw0⟩ : ∃ w0, (w.alloc (.cells #[.string X, .string Y, .slice ao n cap] 24)).alloc (.cells #[.string N, .string V] 42) = w0 := ⟨_, rfl⟩
  have b0 : Below w.heap.size w w0 := by rw [← hw0]; exact ((Below.refl _ _).alloc (Nat.le_refl _) _).alloc (by simp) _
  have t0 : TypAt w0 w.heap.size X Y ao n cap := by rw [← hw0]; exact (typ_new w _ _ _ _ _).below ((Below.refl _ _).alloc (Nat.le_refl _) _)
  have p0 : ParAt w0 (w.heap.size + 1) N V := by
    rw [← hw0]
    have := par_new (w.alloc (.cells #[.string X, .string Y, .slice ao n cap] 24)) N V
    rw [World.size_alloc] at this
    exact this
  have K0 : Hid (Below w.heap.size w w0 ∧ TypAt w0 w.heap.size X Y ao n cap ∧ ParAt w0 (w.heap.size + 1) N V) := Lib.hid ⟨b0, t0, p0⟩
  obtain ⟨c0, c1, c2, _⟩ := t0.cells
  obtain ⟨d0, d1, _⟩ := p0.cells
  have step : Hid (∀ W W', (Below w.heap.size w W ∧ TypAt W w.heap.size X Y ao n cap ∧ ParAt W (w.heap.size + 1) N V) → Below W.heap.size W W' → (Below w.heap.size w W' ∧ TypAt W' w.heap.size X Y ao n cap ∧ ParAt W' (w.heap.size + 1) N V)) := Lib.hid fun W W' ⟨h1, h2, h3⟩ hb => ⟨h1.trans (hb.mono h1.size), h2.below hb, h3.below hb⟩
  clear hat hsm hl hX hY hn hN hV hNs hVs hnil b0 t0 p0 hA hU hUA h9
  go_enter Tryd.func5, Tryd.ntmps5
  go_wp2_with fail
  refine (haw _).mono ?_
  rintro e w1 ⟨rfl, hb1⟩
  have K1 := Lib.hid (step.out _ _ K0.out hb1)
  obtain ⟨c0, c1, c2, _⟩ := K1.out.2.1.cells
  have h1 := hfew.out w1 K1.out.1
  clear haw hb1 K0 hfew
  go_wp2_with fail
  refine h1.mono ?_
  rintro e w2 ⟨b, rfl, hfb, hb2⟩
  have K2 := Lib.hid (step.out _ _ K1.out hb2)
  obtain ⟨c0, c1, c2, _⟩ := K2.out.2.1.cells
  clear h1 hb2 K1
  cases b with
  | false =>
    clear hlast
    go_wp2
    go_ret
    exact ⟨rfl, K2.out.1⟩
  | true =>
    have HF := Lib.hid (hfb rfl)
    have h1 := hrt.out w2 K2.out.1
    clear hfb hrt
    cases hr : rightC t with
    | false =>
      rw [hr] at h1
      clear hr hlast
      go_wp2_with fail
      refine h1.mono ?_
      rintro e w3 ⟨rfl, hb⟩
      have K3 := Lib.hid (step.out _ _ K2.out hb)
      clear h1 hb K2
      go_wp2
      go_ret
      exact ⟨rfl, K3.out.1⟩
    | true =>
      rw [hr] at h1
      have hlast := Lib.hid (hlast.out hr)
      have hgd2 := hgd.out hr
      clear hr hgd
      go_wp2_with fail
      refine h1.mono ?_
      rintro e w3 ⟨rfl, hb⟩
      have K3 := Lib.hid (step.out _ _ K2.out hb)
      obtain ⟨c0, c1, c2, _⟩ := K3.out.2.1.cells
      obtain ⟨d0, d1, _⟩ := K3.out.2.2.cells
      have h1 := hpr.out w3 K3.out.1
      rw [hgd2] at h1
      clear hb K2 hpr hgd2
      by_cases hg1 : 200 < N.size
      · clear hlast
        go_wp2
        go_ret
        exact ⟨rfl, K3.out.1⟩
      by_cases hg2 : 200 < V.size
      · clear hlast
        go_wp2
        go_ret
        exact ⟨rfl, K3.out.1⟩
      have hln : n ≤ 20 := by have := HF.out.1; rw [Hl.out.1, Hl.out.2] at this; exact this
      go_wp2_with fail
      refine h1.mono ?_
      rintro e w4 ⟨rfl, hb⟩
      have K4 := Lib.hid (step.out _ _ K3.out hb)
      obtain ⟨c0, c1, c2, _⟩ := K4.out.2.1.cells
      obtain ⟨w5, hw5⟩ : ∃ W, w4.alloc (.cells #[.string X, .string Y, .slice ao n cap] 24) = W := ⟨_, rfl⟩
      have l5 : Below w4.heap.size w4 w5 := by rw [← hw5]; exact (Below.refl _ _).alloc (Nat.le_refl _) _
      have n5 : TypAt w5 w4.heap.size X Y ao n cap := by rw [← hw5]; exact typ_new w4 _ _ _ _ _
      have z5 : w4.heap.size < w5.heap.size := by rw [← hw5]; simp
      have K5 := Lib.hid (step.out _ _ K4.out l5)
      obtain ⟨P2, hP2⟩ : ∃ P, w4.heap.size = P := ⟨_, rfl⟩
      have HP2 : Hid (w.heap.size ≤ P2) := Lib.hid (by rw [← hP2]; exact K4.out.1.size)
      have hP1 : w.heap.size + 1 < P2 := by
        rw [← hP2]
        exact K4.out.2.2.lt
      have N5 := Lib.hid n5
      obtain ⟨c0, c1, c2, _⟩ := K5.out.2.1.cells
      obtain ⟨d0, d1, _⟩ := K5.out.2.2.cells
      rw [hP2] at N5 z5
      clear h1 hb K3 K4 l5 n5
      have hS : Hid (∀ W, Below P2 w5 W → W.cell? ⟨w.heap.size, 2, none⟩ = some (.slice ao n cap) ∧ W.cell? ⟨w.heap.size + 1, 0, none⟩ = some (.string N) ∧ W.cell? ⟨w.heap.size + 1, 1, none⟩ = some (.string V) ∧ Below P2 w5 W) := Lib.hid fun W hW =>
        ⟨(hW.cell (p := ⟨w.heap.size, 2, none⟩) (by show w.heap.size < P2; omega)).trans K5.out.2.1.cells.2.2.1, (hW.cell (p := ⟨w.heap.size + 1, 0, none⟩) (by show w.heap.size + 1 < P2; omega)).trans K5.out.2.2.cells.1, (hW.cell (p := ⟨w.heap.size + 1, 1, none⟩) (by show w.heap.size + 1 < P2; omega)).trans K5.out.2.2.cells.2.1, hW⟩
      have hA5 : ParsAt w5 w5.heap.size (.slice ao n cap) l := by
        have := (Hat.out w5 K5.out.1).up K5.out.1.size
        rw [Hl.out.1] at this
        exact this
      have r0 : Below w5.heap.size w5 w5 := Below.refl _ w5
      have r1 := r0.alloc r0.size (.cells #[] 42)
      have r2 := r1.alloc r1.size (.cells #[.string N, .string V] 42)
      have r3 := r0.alloc r0.size (.cells #[.string N, .string V] 42)
      have r4 := r3.alloc r3.size (.cells #[] 42)
      have hzz : P2 ≤ w5.heap.size := by omega
      have hS0 := Lib.hid (hS.out _ (r0.drew.mono hzz))
      have hS1 := Lib.hid (hS.out _ (r1.drew.mono hzz))
      have hS2 := Lib.hid (hS.out _ (r2.drew.mono hzz))
      have hS3 := Lib.hid (hS.out _ (r3.drew.mono hzz))
      have hS4 := Lib.hid (hS.out _ (r4.drew.mono hzz))
      have hR1 := Lib.hid r1.drew
      have hR2 := Lib.hid r2.drew
      have hR4 := Lib.hid r4.drew
      have e1 : ParsOwn (w5.alloc (.cells #[] 42)) w5.heap.size (.slice (some ⟨w5.heap.size, 0, none⟩) 0 0) [] := own_empty_geC w5 _ (Nat.le_refl _)
      have hE1 : Hid (ParsOwn (w5.alloc (.cells #[] 42)).drew w5.heap.size (.slice (some ⟨w5.heap.size, 0, none⟩) 0 0) []) := Lib.hid (World.ownsRow.drew e1)
      have hE2 : Hid (ParsOwn ((w5.alloc (.cells #[] 42)).alloc (.cells #[.string N, .string V] 42)).drew w5.heap.size (.slice (some ⟨w5.heap.size, 0, none⟩) 0 0) []) := Lib.hid (World.ownsRow.drew (World.ownsRow.alloc e1 _))
      have z3 : (w5.alloc (.cells #[.string N, .string V] 42)).heap.size = w5.heap.size + 1 := World.size_alloc _ _
      have z1 : (w5.alloc (.cells #[] 42)).heap.size = w5.heap.size + 1 := World.size_alloc _ _
      have hE3 : Hid (ParsOwn ((w5.alloc (.cells #[.string N, .string V] 42)).alloc (.cells #[] 42)).drew w5.heap.size (.slice (some ⟨w5.heap.size + 1, 0, none⟩) 0 0) []) := Lib.hid (by
        have := own_empty_geC (w5.alloc (.cells #[.string N, .string V] 42)) w5.heap.size r3.size
        rw [z3] at this
        exact World.ownsRow.drew this)
      have hA1 := Lib.hid (hA5.below r1.drew (Nat.le_refl _))
      have hA2 := Lib.hid (hA5.below r2.drew (Nat.le_refl _))
      have hA3 := Lib.hid (hA5.below r4.drew (Nat.le_refl _))
      have hh2 : Hid (((w5.alloc (.cells #[] 42)).alloc (.cells #[.string N, .string V] 42)).drew.heap[w5.heap.size + 1]? = some (.cells #[.string N, .string V] 42 (0, 0))) := Lib.hid (by
        have := heap_alloc_new (w5.alloc (.cells #[] 42)) (.cells #[.string N, .string V] 42)
        rw [z1] at this
        exact this)
      have hh3 : Hid (((w5.alloc (.cells #[.string N, .string V] 42)).alloc (.cells #[] 42)).drew.heap[w5.heap.size]? = some (.cells #[.string N, .string V] 42 (0, 0))) := Lib.hid (by
        have h1 := heap_alloc_new w5 (.cells #[.string N, .string V] 42)
        have h2 := ((Below.refl _ (w5.alloc (.cells #[.string N, .string V] 42))).alloc (Nat.le_refl _) (.cells #[] 42)).block w5.heap.size (by omega)
        exact h2.trans h1)
      have HZ2 : Hid (((w5.alloc (.cells #[] 42)).alloc (.cells #[.string N, .string V] 42)).drew.heap.size = w5.heap.size + 2) := Lib.hid (by
        show ((w5.alloc (.cells #[] 42)).alloc (.cells #[.string N, .string V] 42)).heap.size = _
        rw [World.size_alloc, z1])
      have HZ4 : Hid (((w5.alloc (.cells #[.string N, .string V] 42)).alloc (.cells #[] 42)).drew.heap.size = w5.heap.size + 2) := Lib.hid (by
        show ((w5.alloc (.cells #[.string N, .string V] 42)).alloc (.cells #[] 42)).heap.size = _
        rw [World.size_alloc, z3])
      have hsing : Hid (∀ (W : World) (k : Nat), W.heap[k]? = some (.cells #[.string N, .string V] 42 (0, 0)) → ParsAt W W.heap.size (.slice (some ⟨k, 0, none⟩) 1 1) [f]) := Lib.hid fun W k h => by
        rw [← HNV.out.1, ← HNV.out.2] at h
        exact single_atC h
      have hnil1 : Hid (∀ k, NilC (.slice (some ⟨k, 0, none⟩) 1 1)) := Lib.hid fun k => ⟨_, _, _, rfl, fun e => by cases e⟩
      have HL0 : Hid (([] : List ParC).length + l.length ≤ 1000000) := Lib.hid (by have := Hl.out.2; simp; omega)
      have HL1 : Hid (l.length + [f].length ≤ 1000000) := Lib.hid (by have := Hl.out.2; simp; omega)
      have htyp : Hid (∀ W, Below w5.heap.size w5 W → TypAt W P2 X Y ao n cap) := Lib.hid fun W hW => (hW.block _ z5).trans N5.out
      have HZZ := Lib.hid hzz
      have hput : Hid (∀ W (u : Value), Below P2 w5 W → (W.setCell ⟨P2, 2, none⟩ u).cell? ⟨w.heap.size, 2, none⟩ = some (.slice ao n cap) ∧ (W.setCell ⟨P2, 2, none⟩ u).cell? ⟨w.heap.size + 1, 0, none⟩ = some (.string N) ∧ (W.setCell ⟨P2, 2, none⟩ u).cell? ⟨w.heap.size + 1, 1, none⟩ = some (.string V) ∧ Below P2 w5 (W.setCell ⟨P2, 2, none⟩ u)) := Lib.hid fun W u hW => hS.out _ (hW.setCell (p := ⟨P2, 2, none⟩) (Nat.le_refl _) _)
      clear r0 r1 r2 r3 r4 z1 z3 hA5 e1 hzz
      go_wp2_with fail
      go_region_held_law (fun W => W.cell? ⟨w.heap.size, 2, none⟩ = some (.slice ao n cap) ∧ W.cell? ⟨w.heap.size + 1, 0, none⟩ = some (.string N) ∧ W.cell? ⟨w.heap.size + 1, 1, none⟩ = some (.string V) ∧ Below P2 w5 W)
        (first | assumption | exact hS0.out | exact hS1.out | exact hS2.out | exact hS3.out | exact hS4.out | exact hput.out _ _ (And.right (And.right (And.right (by assumption)))) | (trace_state; fail))
        (first
          | (refine step_append_pars rfl (.tmp 40) (.tmp 42) rfl w5.heap.size (.slice (some ⟨w5.heap.size, 0, none⟩) 0 0) [] rfl hE1.out hR1.out.size _ l w5.heap.size rfl hA1.out Hnil.out HL0.out ?_; intro v6 w6 hown6 hg6; have hB6 : Below w5.heap.size w5 w6 := hR1.out.grown hg6 hR1.out.size (fun q hk => (row_blockC hE1.out hk).1); have hS6 := hS.out w6 (hB6.mono HZZ.out); have hB7 := Lib.hid (hB6.alloc hB6.size (.cells #[.string N, .string V] 42)); have hS7 := hS.out _ (hB7.out.mono HZZ.out); have hown7 := Lib.hid (World.ownsRow.alloc hown6 (.cells #[.string N, .string V] 42)); have hF7 := Lib.hid (hsing.out _ _ (heap_alloc_new w6 (.cells #[.string N, .string V] 42))); clear hown6 hg6 hB6)
          | (refine step_append_pars rfl (.tmp 40) (.tmp 42) rfl w5.heap.size (.slice (some ⟨w5.heap.size, 0, none⟩) 0 0) [] rfl hE2.out hR2.out.size _ l w5.heap.size rfl hA2.out Hnil.out HL0.out ?_; intro v6 w6 hown6 hg6; have hB7 := Lib.hid (show Below w5.heap.size w5 w6 from hR2.out.grown hg6 hR2.out.size (fun q hk => (row_blockC hE2.out hk).1)); have hS7 := hS.out w6 (hB7.out.mono HZZ.out); have hown7 := Lib.hid hown6; have hF7 := Lib.hid (hsing.out w6 (w5.heap.size + 1) ((hg6.block (w5.heap.size + 1) (by have := HZ2.out; omega) (by simp [Value.ownBlock])).trans hh2.out)); clear hown6 hg6)
          | (refine step_append_pars rfl (.tmp 40) (.tmp 42) rfl w5.heap.size (.slice (some ⟨w5.heap.size + 1, 0, none⟩) 0 0) [] rfl hE3.out hR4.out.size _ l w5.heap.size rfl hA3.out Hnil.out HL0.out ?_; intro v6 w6 hown6 hg6; have hB7 := Lib.hid (show Below w5.heap.size w5 w6 from hR4.out.grown hg6 hR4.out.size (fun q hk => (row_blockC hE3.out hk).1)); have hS7 := hS.out w6 (hB7.out.mono HZZ.out); have hown7 := Lib.hid hown6; have hF7 := Lib.hid (hsing.out w6 w5.heap.size ((hg6.block w5.heap.size (by have := HZ4.out; omega) (by simp [Value.ownBlock])).trans hh3.out)); clear hown6 hg6)
          | (refine step_append_pars rfl (.tmp 43) (.tmp 45) rfl w5.heap.size v6 l rfl hown7.out hB7.out.size _ [f] _ rfl hF7.out (hnil1.out _) HL1.out ?_; intro v8 w8 hown8 hg8; have hB8 := Lib.hid (show Below w5.heap.size w5 w8 from hB7.out.grown hg8 hB7.out.size (fun q hk => (row_blockC hown7.out hk).1)); have hS8 := hS.out w8 (hB8.out.mono HZZ.out); obtain ⟨y0, y1, y2, y3, y4, y5⟩ := (htyp.out w8 hB8.out).cells; have Hown8 := Lib.hid hown8; clear hown8 hg8; obtain ⟨ao8, m8, cap8, rfl, hm8⟩ := own_sliceN Hown8.out))
      all_goals
        obtain ⟨wU, hwU⟩ : ∃ W, w8.setCell ⟨P2, 2, none⟩ (.slice ao8 m8 cap8) = W := ⟨_, rfl⟩
        have kU : TypAt wU P2 X Y ao8 m8 cap8 := by rw [← hwU]; exact (htyp.out w8 hB8.out).pars _ _ _
        have aU : ParsAt wU wU.heap.size (.slice ao8 m8 cap8) (l ++ [f]) := by
          rw [← hwU]
          exact (show ParsOwn _ w5.heap.size (.slice ao8 m8 cap8) (l ++ [f]) from ownsRow_setCell_below Hown8.out (a := ⟨P2, 2, none⟩) z5 _).at
        have bU : Below P2 w5 wU := by rw [← hwU]; exact (hB8.out.mono HZZ.out).setCell (p := ⟨P2, 2, none⟩) (Nat.le_refl _) _
        have KU : Hid (Below w.heap.size w wU ∧ TypAt wU w.heap.size X Y ao n cap ∧ ParAt wU (w.heap.size + 1) N V ∧ TypAt wU P2 X Y ao8 m8 cap8 ∧ ParsAt wU wU.heap.size (.slice ao8 m8 cap8) (l ++ [f])) := Lib.hid ⟨K5.out.1.trans (bU.mono HP2.out), (bU.block _ (by omega)).trans K5.out.2.1, (bU.block _ hP1).trans K5.out.2.2, kU, aU⟩
        have stepU : Hid (∀ W W', (Below w.heap.size w W ∧ TypAt W w.heap.size X Y ao n cap ∧ ParAt W (w.heap.size + 1) N V ∧ TypAt W P2 X Y ao8 m8 cap8 ∧ ParsAt W W.heap.size (.slice ao8 m8 cap8) (l ++ [f])) → Below W.heap.size W W' → (Below w.heap.size w W' ∧ TypAt W' w.heap.size X Y ao n cap ∧ ParAt W' (w.heap.size + 1) N V ∧ TypAt W' P2 X Y ao8 m8 cap8 ∧ ParsAt W' W'.heap.size (.slice ao8 m8 cap8) (l ++ [f]))) := Lib.hid fun W W' ⟨h1, h2, h3, h4, h5⟩ hb => ⟨h1.trans (hb.mono h1.size), h2.below hb, h3.below hb, h4.below hb, (h5.below hb (Nat.le_refl _)).up hb.size⟩
        obtain ⟨g0, g1, g2, _⟩ := kU.cells
        have h1 := hprU.out wU ao8 m8 cap8 aU
        clear hS0 hS1 hS2 hS3 hS4 hE1 hE2 hE3 hA1 hA2 hA3 hh2 hh3 HZ2 HZ4 hsing hnil1 hS7 hown7 hF7 hB7 hB8 hS8 hS hprU hput htyp Hown8 kU aU bU K5 N5 hR1 hR2 hR4 HL0 HL1 y0 y1 y2 y3 y4 y5 hm8
        cases hrU : rightC (t.1, t.2.1, l ++ [f]) with
        | false =>
          rw [hbdU.out hrU] at h1
          clear hrU hbdU hgdU hpaU HU
          go_wp2_with fail
          refine h1.mono ?_
          rintro e wV ⟨rfl, hb⟩
          have K := Lib.hid (stepU.out _ _ KU.out hb)
          clear h1 hb KU stepU
          obtain ⟨c0, c1, c2, c3, c4, c5⟩ := K.out.2.1.cells
          obtain ⟨g0, g1, g2, g3, g4, g5⟩ := K.out.2.2.2.1.cells
          by_cases hn0 : n = 0
          · have hz : ((n : Int) == 0) = true := by rw [hn0]; rfl
            clear hlast
            go_wp2
            go_ret
            exact ⟨rfl, K.out.1⟩
          · have hz : ((n : Int) == 0) = false := by rw [beq_eq_false_iff_ne]; omega
            obtain ⟨hwr, hsl, hrl⟩ := hlast.out hn0
            obtain ⟨wL, hwL⟩ : ∃ W, wV.setCell ⟨P2, 2, none⟩ (.slice ao9 m9 cap9) = W := ⟨_, rfl⟩
            have kL : TypAt wL P2 X Y ao9 m9 cap9 := by rw [← hwL]; exact K.out.2.2.2.1.pars _ _ _
            have bL : Below w.heap.size w wL := by rw [← hwL]; exact K.out.1.setCell (p := ⟨P2, 2, none⟩) HP2.out _
            obtain ⟨x0, x1, x2, _⟩ := kL.cells
            have h9 := hrl wL bL
            have BL := Lib.hid bL
            clear hlast kL bL K hrl
            go_wp2_with fail
            refine h9.mono ?_
            rintro e wM ⟨rfl, hb⟩
            go_wp2
            go_ret
            exact ⟨rfl, BL.out.trans (hb.mono BL.out.size)⟩
        | true =>
          rw [hgdU.out hrU] at h1
          have hpa := Lib.hid (hpaU.out hrU)
          clear hrU hbdU hgdU hpaU
          obtain ⟨hex, hlt⟩ := HU.out
          have hxx : (A.size : Int) ≤ (U.size : Int) := by omega
          have hlq : ¬ (U.size : Int) ≤ (A.size : Int) := by omega
          clear HU
          go_wp2_with fail
          refine h1.mono ?_
          rintro e wV ⟨rfl, hb⟩
          have KV := Lib.hid (stepU.out _ _ KU.out hb)
          obtain ⟨g0, g1, g2, _⟩ := KV.out.2.2.2.1.cells
          obtain ⟨d0, d1, _⟩ := KV.out.2.2.1.cells
          have h2 := hpa.out wV ao8 m8 cap8 KV.out.2.2.2.2
          clear h1 hb KU hpa
          go_wp2_with fail
          refine h2.mono ?_
          rintro e wX ⟨rfl, hb⟩
          have K := Lib.hid (stepU.out _ _ KV.out hb)
          obtain ⟨d0, d1, _⟩ := K.out.2.2.1.cells
          clear h2 hb KV stepU
          obtain ⟨c0, c1, c2, c3, c4, c5⟩ := K.out.2.1.cells
          obtain ⟨g0, g1, g2, g3, g4, g5⟩ := K.out.2.2.2.1.cells
          by_cases hn0 : n = 0
          · have hz : ((n : Int) == 0) = true := by rw [hn0]; rfl
            clear hlast
            go_wp2
            go_ret
            exact ⟨rfl, K.out.1⟩
          · have hz : ((n : Int) == 0) = false := by rw [beq_eq_false_iff_ne]; omega
            obtain ⟨hwr, hsl, hrl⟩ := hlast.out hn0
            obtain ⟨wL, hwL⟩ : ∃ W, wX.setCell ⟨P2, 2, none⟩ (.slice ao9 m9 cap9) = W := ⟨_, rfl⟩
            have kL : TypAt wL P2 X Y ao9 m9 cap9 := by rw [← hwL]; exact K.out.2.2.2.1.pars _ _ _
            have bL : Below w.heap.size w wL := by rw [← hwL]; exact K.out.1.setCell (p := ⟨P2, 2, none⟩) HP2.out _
            obtain ⟨x0, x1, x2, _⟩ := kL.cells
            have h9 := hrl wL bL
            have BL := Lib.hid bL
            clear hlast kL bL K hrl
            go_wp2_with fail
            refine h9.mono ?_
            rintro e wM ⟨rfl, hb⟩
            go_wp2
            go_ret
            exact ⟨rfl, BL.out.trans (hb.mono BL.out.size)⟩
end Go.Proofs.YtafpifpgfpkckaaDoor
