/-
  rightParams and Right.
-/
import Derived.Test.YtafpifpgfpkckaaDoorCtB
namespace Go.Proofs.YtafpifpgfpkckaaDoor
open Go.RowKit

theorem run_par_slice (ao : Option Addr) (k cap l : Nat) (i : Int) (hi : i = l) (h : l ≤ k) (W : World) : (Instr.slice 22 (.slice ao k cap) (some (.int .i64 i)) none none).run Tryd.prog W = .ok (sliced ao l k cap 2) W := by
  have hu : Tryd.prog.underlying 22 = some (.slice (Tryd.prog.elem 22)) := by kernel_rfl
  have hz : (sizeOf (Tryd.prog.elem 22)).run Tryd.prog W = .ok 2 W := by
    rw [show Tryd.prog.elem 22 = 42 by kernel_rfl]
    go_simp
  rw [run_slice_l W 22 ao k cap hu .i64 i (by omega) (by omega), hz, hi]
  rfl
/-- What stands behind a place of a row. -/
theorem pars_sliced {w : World} {B k cap l : Nat} {ao : Option Addr} {ps : List ParC} (h : ParsAt w B (.slice ao k cap) ps) (hk : ps.length = k) (hl : l ≤ k) : ParsAt w B (sliced ao l k cap 2) (ps.drop l) := by
  obtain ⟨ao2, cap2, e, h2, h3, h4⟩ := h
  cases e
  rw [hk] at h2
  refine ⟨_, _, by unfold sliced; rw [List.length_drop, hk], by rw [List.length_drop, hk]; omega, Nat.le_trans (Nat.sub_le _ _) h3, fun j hj => ?_⟩
  rw [List.length_drop, hk] at hj
  obtain ⟨g, off, rfl, q1, q2, q3⟩ := h4 (l + j) (by omega)
  rw [if_neg (by omega)]
  refine ⟨g, off + l * 2, by simp [Addr.add], q1, ?_, ?_⟩
  · rw [List.getElem_drop, show off + l * 2 + j * 2 = off + (l + j) * 2 by omega]
    exact q2
  · rw [List.getElem_drop, show off + l * 2 + j * 2 + 1 = off + (l + j) * 2 + 1 by omega]
    exact q3
theorem pars_step (l : List ParC) (i : Nat) (h : i < l.length) : parsC (l.drop i) = (tokT l[i].1 && (valT l[i].2 && (!(hasC (l.drop (i + 1)) l[i].1) && parsC (l.drop (i + 1))))) := by
  rw [List.drop_eq_getElem_cons h]
  rfl

set_option maxRecDepth 100000 in
set_option maxHeartbeats 4000000 in
theorem crightp_any (B : Nat) (v : Value) (l : List ParC) (w : World) (h : ParsAt w B v l) (hB : B ≤ w.heap.size) :
    Calls Tryd.prog 34 #[v] w fun e w' => e = .returned (.bool (decide (l.length ≤ 8) && parsC l)) ∧ Below w.heap.size w w' := by
  have hh := h
  obtain ⟨ao, cap, rfl, hc1, hc2, hat⟩ := h
  have Hat := Lib.hid hat
  obtain ⟨k, hkl⟩ : ∃ k, l.length = k := ⟨_, rfl⟩
  have Hk := Lib.hid hkl
  unfold maxLen at hc2
  rw [hkl] at hh
  have h0 := Lib.hid hh
  clear hh
  obtain ⟨R, hR⟩ : ∃ R, parsC l = R := ⟨_, rfl⟩
  rw [hkl] at hc1 ⊢
  rw [hR]
  have HR := Lib.hid hR
  clear hat hkl hR
  by_cases h8 : k ≤ 8
  · rw [decide_eq_true h8, Bool.true_and]
    go_enter Tryd.func34, Tryd.ntmps34
    go_wp2
    go_loopw [10] (fun iv wr => ∃ i : Nat, i ≤ k ∧ iv = .int .i64 i ∧ Hid (parsC (l.drop i) = R) ∧ Below w.heap.size w wr) (fun iv _ => k - (intOf iv).toNat)
    case atStart => exact ⟨0, by omega, rfl, Lib.hid (by rw [List.drop_zero]; exact HR.out), Below.refl _ _⟩
    case round =>
      obtain ⟨i, hi, rfl, hg, hbr⟩ := hrel
      by_cases hlt : i < k
      · have hil : i < l.length := by rw [Hk.out]; exact hlt
        obtain ⟨g, off, rfl, hgB, z0, z1⟩ := Hat.out i hil
        have hst := hg.out
        rw [pars_step l i hil] at hst
        have hdrop : ∀ W, Below w.heap.size w W → ParsAt W w.heap.size (sliced (some ⟨g, off, none⟩) (i + 1) k cap 2) (l.drop (i + 1)) := fun W hW => pars_sliced (((h0.out).below hW hB).up hB) Hk.out (by omega)
        have hsl := fun W => run_par_slice (some ⟨g, off, none⟩) k cap (i + 1) ((i : Int) + 1) (by omega) (by omega) W
        obtain ⟨V, hV⟩ : ∃ V, sliced (some ⟨g, off, none⟩) (i + 1) k cap 2 = V := ⟨_, rfl⟩
        simp only [hV] at hdrop hsl
        clear hV
        obtain ⟨f, hf⟩ : ∃ f, l[i] = f := ⟨_, rfl⟩
        rw [hf] at z0 z1 hst
        have htk := fun W => cistok_any (textQ f.1) W
        have hvl := fun W => crightv_any (textQ f.2) W
        simp only [show (textQ f.1).data.toList = f.1 from rfl, show (textQ f.2).data.toList = f.2 from rfl] at htk hvl
        have hhn : Hid (∀ W, Below w.heap.size w W → Calls Tryd.prog 50 #[V, .string (textQ f.1)] W fun e w' => e = .returned (.bool (hasC (l.drop (i + 1)) f.1)) ∧ Below W.heap.size W w') := Lib.hid fun W hW => chasn_any w.heap.size _ _ f.1 W (hdrop W hW) hW.size
        obtain ⟨X, hX⟩ : ∃ X, textQ f.1 = X := ⟨_, rfl⟩
        obtain ⟨Y, hY⟩ : ∃ Y, textQ f.2 = Y := ⟨_, rfl⟩
        rw [hX] at z0 hhn
        rw [hY] at z1
        simp only [hX] at htk
        simp only [hY] at hvl
        obtain ⟨b1, hb1⟩ : ∃ b, tokT f.1 = b := ⟨_, rfl⟩
        obtain ⟨b2, hb2⟩ : ∃ b, valT f.2 = b := ⟨_, rfl⟩
        obtain ⟨b3, hb3⟩ : ∃ b, hasC (l.drop (i + 1)) f.1 = b := ⟨_, rfl⟩
        rw [hb1, hb2, hb3] at hst
        simp only [hb1] at htk
        simp only [hb2] at hvl
        rw [hb3] at hhn
        have y0 := (hbr.cell (p := ⟨g, off + i * 2, none⟩) (by show g < w.heap.size; omega)).trans z0
        have y1 := (hbr.cell (p := ⟨g, off + i * 2 + 1, none⟩) (by show g < w.heap.size; omega)).trans z1
        have hbz := hbr.size
        clear z0 z1 hX hY hg hil hf hdrop hb1 hb2 hb3
        have hw1 : IntKind.i64.wrap ((i : Int) + 1) = (i : Int) + 1 := by rw [IntWalk.i64_in _ (by omega)]
        have hle : (i : Int) + 1 ≤ (k : Int) := by omega
        obtain ⟨wp, hwp⟩ : ∃ wp, wr.alloc (.cells #[.string X, .string Y] 42) = wp := ⟨_, rfl⟩
        have pa : ParAt wp wr.heap.size X Y := by rw [← hwp]; exact par_new wr X Y
        have bp : Below w.heap.size w wp := by rw [← hwp]; exact hbr.alloc hbz _
        obtain ⟨p0, p1, p2, p3⟩ := pa.cells
        have Pa := Lib.hid pa
        have Bp := Lib.hid bp
        cases b1 with
        | false =>
          have Hn := Lib.hid (show false = R from hst)
          clear hst pa bp hhn
          go_wp2
          go_quiet (first | (with_reducible exact Calls.quiet_of_same (htk _)) | (with_reducible exact Calls.quiet_of_same (hvl _)))
          have hb2 := below_drewN Bp.out nq
          go_wp2
          go_ret
          exact ⟨by rw [← Hn.out]; rfl, hb2⟩
        | true =>
          cases b2 with
          | false =>
            have Hn := Lib.hid (show false = R from hst)
            clear hst pa bp hhn
            go_wp2
            go_quiet (first | (with_reducible exact Calls.quiet_of_same (htk _)) | (with_reducible exact Calls.quiet_of_same (hvl _)))
            have hb2 := below_drewN Bp.out nq
            go_wp2
            go_ret
            exact ⟨by rw [← Hn.out]; rfl, hb2⟩
          | true =>
            have Hn := Lib.hid (show (!b3 && parsC (l.drop (i + 1))) = R from hst)
            have hS : Hid (∀ W, Below wp.heap.size wp W → W.cell? ⟨wr.heap.size, 0, none⟩ = some (.string X) ∧ W.cell? ⟨wr.heap.size, 1, none⟩ = some (.string Y) ∧ Below w.heap.size w W ∧ Below wp.heap.size wp W) := Lib.hid fun W hW => by
              obtain ⟨q0, q1, _⟩ := (Pa.out.below hW).cells
              exact ⟨q0, q1, Bp.out.trans (hW.mono Bp.out.size), hW⟩
            have hr1 : Hid (∀ W, (W.cell? ⟨wr.heap.size, 0, none⟩ = some (.string X) ∧ W.cell? ⟨wr.heap.size, 1, none⟩ = some (.string Y) ∧ Below w.heap.size w W ∧ Below wp.heap.size wp W) → Calls Tryd.prog 33 #[.string X] W fun e w' => e = .returned (.bool true) ∧ (w'.cell? ⟨wr.heap.size, 0, none⟩ = some (.string X) ∧ w'.cell? ⟨wr.heap.size, 1, none⟩ = some (.string Y) ∧ Below w.heap.size w w' ∧ Below wp.heap.size wp w')) := Lib.hid fun W hW => by
              refine (htk W).mono ?_
              rintro e w' ⟨rfl, rfl⟩
              exact ⟨rfl, hW⟩
            have hr2 : Hid (∀ W, (W.cell? ⟨wr.heap.size, 0, none⟩ = some (.string X) ∧ W.cell? ⟨wr.heap.size, 1, none⟩ = some (.string Y) ∧ Below w.heap.size w W ∧ Below wp.heap.size wp W) → Calls Tryd.prog 49 #[.string Y] W fun e w' => e = .returned (.bool true) ∧ (w'.cell? ⟨wr.heap.size, 0, none⟩ = some (.string X) ∧ w'.cell? ⟨wr.heap.size, 1, none⟩ = some (.string Y) ∧ Below w.heap.size w w' ∧ Below wp.heap.size wp w')) := Lib.hid fun W hW => by
              refine (hvl W).mono ?_
              rintro e w' ⟨rfl, rfl⟩
              exact ⟨rfl, hW⟩
            have hr3 : Hid (∀ W, (W.cell? ⟨wr.heap.size, 0, none⟩ = some (.string X) ∧ W.cell? ⟨wr.heap.size, 1, none⟩ = some (.string Y) ∧ Below w.heap.size w W ∧ Below wp.heap.size wp W) → Calls Tryd.prog 50 #[V, .string X] W fun e w' => e = .returned (.bool b3) ∧ (w'.cell? ⟨wr.heap.size, 0, none⟩ = some (.string X) ∧ w'.cell? ⟨wr.heap.size, 1, none⟩ = some (.string Y) ∧ Below w.heap.size w w' ∧ Below wp.heap.size wp w')) := Lib.hid fun W hW => by
              refine (hhn.out W hW.2.2.1).mono ?_
              rintro e w' ⟨rfl, hb⟩
              exact ⟨rfl, hS.out _ (hW.2.2.2.trans (hb.mono hW.2.2.2.size))⟩
            have hDr : Hid (∀ W, (W.cell? ⟨wr.heap.size, 0, none⟩ = some (.string X) ∧ W.cell? ⟨wr.heap.size, 1, none⟩ = some (.string Y) ∧ Below w.heap.size w W ∧ Below wp.heap.size wp W) → (W.drew.cell? ⟨wr.heap.size, 0, none⟩ = some (.string X) ∧ W.drew.cell? ⟨wr.heap.size, 1, none⟩ = some (.string Y) ∧ Below w.heap.size w W.drew ∧ Below wp.heap.size wp W.drew)) := Lib.hid fun W hW => hS.out _ hW.2.2.2.drew
            have hS0 := Lib.hid (hS.out wp (Below.refl _ _))
            have hS00 := Lib.hid (hS.out _ (Below.refl wp.heap.size wp).drew)
            clear hst pa bp hhn htk hvl
            go_wp2_with fail
            go_region_held3 (fun W => W.cell? ⟨wr.heap.size, 0, none⟩ = some (.string X) ∧ W.cell? ⟨wr.heap.size, 1, none⟩ = some (.string Y) ∧ Below w.heap.size w W ∧ Below wp.heap.size wp W)
              (first | assumption | exact hS0.out | exact hS00.out | exact hDr.out _ (by assumption) | (trace_state; fail))
              (first
                | (go_at_call 33; (with_reducible refine (hr1.out _ ?_).mono ?_); (first | assumption | exact hS0.out | exact hS00.out); rintro e w11 ⟨rfl, hS11⟩)
                | (go_at_call 49; (with_reducible refine (hr2.out _ ?_).mono ?_); (first | assumption | exact hS0.out | exact hS00.out); rintro e w12 ⟨rfl, hS12⟩)
                | (go_at_call 50; (with_reducible refine (hr3.out _ ?_).mono ?_); (first | assumption | exact hS0.out | exact hS00.out); rintro e w13 ⟨rfl, hS13⟩))
            all_goals
              have hbn := hS13.2.2.1
              clear hr1 hr2 hr3 hDr hS0 hS00 hS
              cases b3 with
              | true =>
                go_wp2
                go_ret
                exact ⟨by rw [← Hn.out]; rfl, hbn⟩
              | false =>
                have Hn2 := Lib.hid (show parsC (l.drop (i + 1)) = R from Hn.out)
                go_wp2
                go_roundw
                case rel => exact ⟨i + 1, by omega, by go_num, Hn2, hbn⟩
                case measure => simp [intOf]; omega
      · obtain rfl : i = k := by omega
        have hall : true = R := by
          rw [← hg.out, List.drop_of_length_le (by rw [Hk.out]; exact Nat.le_refl _)]
          rfl
        subst hall
        clear hg
        go_wp2
        go_ret
        exact ⟨rfl, hbr⟩
  · rw [decide_eq_false h8, Bool.false_and]
    go_enter Tryd.func34, Tryd.ntmps34
    go_wp2
    go_ret
    exact ⟨rfl, Below.refl _ _⟩
end Go.Proofs.YtafpifpgfpkckaaDoor
