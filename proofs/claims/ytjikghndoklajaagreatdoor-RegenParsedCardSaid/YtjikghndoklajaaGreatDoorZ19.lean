/-
  Texts of this proof, put together: CtC, CtD, CtF.
-/
import Derived.Test.YtjikghndoklajaaGreatDoorZ18
import Derived.Lib.Case
namespace Go.Proofs.YtjikghndoklajaaGreatDoor
open Go.RowKit

theorem run_par_slice (ao : Option Addr) (k cap l : Nat) (i : Int) (hi : i = l) (h : l ≤ k) (W : World) : (Instr.slice 24 (.slice ao k cap) (some (.int .i64 i)) none none).run Tryz.prog W = .ok (sliced ao l k cap 2) W := by
  have hu : Tryz.prog.underlying 24 = some (.slice (Tryz.prog.elem 24)) := by kernel_rfl
  have hz : (sizeOf (Tryz.prog.elem 24)).run Tryz.prog W = .ok 2 W := by
    rw [show Tryz.prog.elem 24 = 57 by kernel_rfl]
    go_simp
  rw [run_slice_l W 24 ao k cap hu .i64 i (by omega) (by omega), hz, hi]
  rfl
theorem pars_sliced {w : World} {B k cap l : Nat} {ao : Option Addr} {ps : List ParC} (h : ParsAt w B (.slice ao k cap) ps) (hk : ps.length = k) (hl : l ≤ k) : ParsAt w B (sliced ao l k cap 2) (ps.drop l) := by
  obtain ⟨ao2, cap2, e, h2, h3, h4⟩ := h
  cases e
  rw [hk] at h2
  refine ⟨_, _, by unfold sliced; rw [List.length_drop, hk], by rw [List.length_drop, hk]; omega, Nat.le_trans (Nat.sub_le _ _) h3, fun j hj => ?_⟩
  rw [List.length_drop, hk] at hj
  obtain ⟨g, off, rfl, q1, q2, q3⟩ := h4 (l + j) (by omega)
  rw [if_neg (by omega)]
  refine ⟨g, off + l * 2, by simp [Addr.add], q1, ?_, ?_⟩
  · rw [List.getElem_drop, show off + l * 2 + j * 2 = off + (l + j) * 2 by omega]
    exact q2
  · rw [List.getElem_drop, show off + l * 2 + j * 2 + 1 = off + (l + j) * 2 + 1 by omega]
    exact q3
theorem pars_step (l : List ParC) (i : Nat) (h : i < l.length) : parsC (l.drop i) = (tokT l[i].1 && (valT l[i].2 && (!(hasC (l.drop (i + 1)) l[i].1) && parsC (l.drop (i + 1))))) := by
  rw [List.drop_eq_getElem_cons h]
  rfl

set_option maxRecDepth 100000 in
set_option maxHeartbeats 4000000 in
theorem crightp_any (B : Nat) (v : Value) (l : List ParC) (w : World) (h : ParsAt w B v l) (hB : B ≤ w.heap.size) :
    Calls Tryz.prog 80 #[v] w fun e w' => e = .returned (.bool (decide (l.length ≤ 8) && parsC l)) ∧ Below w.heap.size w w' := by
  have hh := h
  obtain ⟨ao, cap, rfl, hc1, hc2, hat⟩ := h
  have Hat := Lib.hid hat
  obtain ⟨k, hkl⟩ : ∃ k, l.length = k := ⟨_, rfl⟩
  have Hk := Lib.hid hkl
  unfold maxLen at hc2
  rw [hkl] at hh
  have h0 := Lib.hid hh
  clear hh
  obtain ⟨R, hR⟩ : ∃ R, parsC l = R := ⟨_, rfl⟩
  rw [hkl] at hc1 ⊢
  rw [hR]
  have HR := Lib.hid hR
  clear hat hkl hR
  by_cases h8 : k ≤ 8
  · rw [decide_eq_true h8, Bool.true_and]
    go_enter Tryz.func80, Tryz.ntmps80
    go_wp2
    go_loopw [10] (fun iv wr => ∃ i : Nat, i ≤ k ∧ iv = .int .i64 i ∧ Hid (parsC (l.drop i) = R) ∧ Below w.heap.size w wr) (fun iv _ => k - (intOf iv).toNat)
    case atStart => exact ⟨0, by omega, rfl, Lib.hid (by rw [List.drop_zero]; exact HR.out), Below.refl _ _⟩
    case round =>
      obtain ⟨i, hi, rfl, hg, hbr⟩ := hrel
      by_cases hlt : i < k
      · have hil : i < l.length := by rw [Hk.out]; exact hlt
        obtain ⟨g, off, rfl, hgB, z0, z1⟩ := Hat.out i hil
        have hst := hg.out
        rw [pars_step l i hil] at hst
        have hdrop : ∀ W, Below w.heap.size w W → ParsAt W w.heap.size (sliced (some ⟨g, off, none⟩) (i + 1) k cap 2) (l.drop (i + 1)) := fun W hW => pars_sliced (((h0.out).below hW hB).up hB) Hk.out (by omega)
        have hsl := fun W => run_par_slice (some ⟨g, off, none⟩) k cap (i + 1) ((i : Int) + 1) (by omega) (by omega) W
        obtain ⟨V, hV⟩ : ∃ V, sliced (some ⟨g, off, none⟩) (i + 1) k cap 2 = V := ⟨_, rfl⟩
        simp only [hV] at hdrop hsl
        clear hV
        obtain ⟨f, hf⟩ : ∃ f, l[i] = f := ⟨_, rfl⟩
        rw [hf] at z0 z1 hst
        have htk := fun W => cistok_any (textQ f.1) W
        have hvl := fun W => crightv_any (textQ f.2) W
        simp only [show (textQ f.1).data.toList = f.1 from rfl, show (textQ f.2).data.toList = f.2 from rfl] at htk hvl
        have hhn : Hid (∀ W, Below w.heap.size w W → Calls Tryz.prog 120 #[V, .string (textQ f.1)] W fun e w' => e = .returned (.bool (hasC (l.drop (i + 1)) f.1)) ∧ Below W.heap.size W w') := Lib.hid fun W hW => chasn_any w.heap.size _ _ f.1 W (hdrop W hW) hW.size
        obtain ⟨X, hX⟩ : ∃ X, textQ f.1 = X := ⟨_, rfl⟩
        obtain ⟨Y, hY⟩ : ∃ Y, textQ f.2 = Y := ⟨_, rfl⟩
        rw [hX] at z0 hhn
        rw [hY] at z1
        simp only [hX] at htk
        simp only [hY] at hvl
        obtain ⟨b1, hb1⟩ : ∃ b, tokT f.1 = b := ⟨_, rfl⟩
        obtain ⟨b2, hb2⟩ : ∃ b, valT f.2 = b := ⟨_, rfl⟩
        obtain ⟨b3, hb3⟩ : ∃ b, hasC (l.drop (i + 1)) f.1 = b := ⟨_, rfl⟩
        rw [hb1, hb2, hb3] at hst
        simp only [hb1] at htk
        simp only [hb2] at hvl
        rw [hb3] at hhn
        have y0 := (hbr.cell (p := ⟨g, off + i * 2, none⟩) (by show g < w.heap.size; omega)).trans z0
        have y1 := (hbr.cell (p := ⟨g, off + i * 2 + 1, none⟩) (by show g < w.heap.size; omega)).trans z1
        have hbz := hbr.size
        clear z0 z1 hX hY hg hil hf hdrop hb1 hb2 hb3
        have hw1 : IntKind.i64.wrap ((i : Int) + 1) = (i : Int) + 1 := by rw [IntWalk.i64_in _ (by omega)]
        have hle : (i : Int) + 1 ≤ (k : Int) := by omega
        obtain ⟨wp, hwp⟩ : ∃ wp, wr.alloc (.cells #[.string X, .string Y] 57) = wp := ⟨_, rfl⟩
        have pa : ParAt wp wr.heap.size X Y := by rw [← hwp]; exact par_new wr X Y
        have bp : Below w.heap.size w wp := by rw [← hwp]; exact hbr.alloc hbz _
        obtain ⟨p0, p1, p2, p3⟩ := pa.cells
        have Pa := Lib.hid pa
        have Bp := Lib.hid bp
        cases b1 with
        | false =>
          have Hn := Lib.hid (show false = R from hst)
          clear hst pa bp hhn
          go_wp2
          go_quiet (first | (with_reducible exact Calls.quiet_of_same (htk _)) | (with_reducible exact Calls.quiet_of_same (hvl _)))
          have hb2 := below_drewN Bp.out nq
          go_wp2
          go_ret
          exact ⟨by rw [← Hn.out]; rfl, hb2⟩
        | true =>
          cases b2 with
          | false =>
            have Hn := Lib.hid (show false = R from hst)
            clear hst pa bp hhn
            go_wp2
            go_quiet (first | (with_reducible exact Calls.quiet_of_same (htk _)) | (with_reducible exact Calls.quiet_of_same (hvl _)))
            have hb2 := below_drewN Bp.out nq
            go_wp2
            go_ret
            exact ⟨by rw [← Hn.out]; rfl, hb2⟩
          | true =>
            have Hn := Lib.hid (show (!b3 && parsC (l.drop (i + 1))) = R from hst)
            have hS : Hid (∀ W, Below wp.heap.size wp W → W.cell? ⟨wr.heap.size, 0, none⟩ = some (.string X) ∧ W.cell? ⟨wr.heap.size, 1, none⟩ = some (.string Y) ∧ Below w.heap.size w W ∧ Below wp.heap.size wp W) := Lib.hid fun W hW => by
              obtain ⟨q0, q1, _⟩ := (Pa.out.below hW).cells
              exact ⟨q0, q1, Bp.out.trans (hW.mono Bp.out.size), hW⟩
            have hr1 : Hid (∀ W, (W.cell? ⟨wr.heap.size, 0, none⟩ = some (.string X) ∧ W.cell? ⟨wr.heap.size, 1, none⟩ = some (.string Y) ∧ Below w.heap.size w W ∧ Below wp.heap.size wp W) → Calls Tryz.prog 79 #[.string X] W fun e w' => e = .returned (.bool true) ∧ (w'.cell? ⟨wr.heap.size, 0, none⟩ = some (.string X) ∧ w'.cell? ⟨wr.heap.size, 1, none⟩ = some (.string Y) ∧ Below w.heap.size w w' ∧ Below wp.heap.size wp w')) := Lib.hid fun W hW => by
              refine (htk W).mono ?_
              rintro e w' ⟨rfl, rfl⟩
              exact ⟨rfl, hW⟩
            have hr2 : Hid (∀ W, (W.cell? ⟨wr.heap.size, 0, none⟩ = some (.string X) ∧ W.cell? ⟨wr.heap.size, 1, none⟩ = some (.string Y) ∧ Below w.heap.size w W ∧ Below wp.heap.size wp W) → Calls Tryz.prog 119 #[.string Y] W fun e w' => e = .returned (.bool true) ∧ (w'.cell? ⟨wr.heap.size, 0, none⟩ = some (.string X) ∧ w'.cell? ⟨wr.heap.size, 1, none⟩ = some (.string Y) ∧ Below w.heap.size w w' ∧ Below wp.heap.size wp w')) := Lib.hid fun W hW => by
              refine (hvl W).mono ?_
              rintro e w' ⟨rfl, rfl⟩
              exact ⟨rfl, hW⟩
            have hr3 : Hid (∀ W, (W.cell? ⟨wr.heap.size, 0, none⟩ = some (.string X) ∧ W.cell? ⟨wr.heap.size, 1, none⟩ = some (.string Y) ∧ Below w.heap.size w W ∧ Below wp.heap.size wp W) → Calls Tryz.prog 120 #[V, .string X] W fun e w' => e = .returned (.bool b3) ∧ (w'.cell? ⟨wr.heap.size, 0, none⟩ = some (.string X) ∧ w'.cell? ⟨wr.heap.size, 1, none⟩ = some (.string Y) ∧ Below w.heap.size w w' ∧ Below wp.heap.size wp w')) := Lib.hid fun W hW => by
              refine (hhn.out W hW.2.2.1).mono ?_
              rintro e w' ⟨rfl, hb⟩
              exact ⟨rfl, hS.out _ (hW.2.2.2.trans (hb.mono hW.2.2.2.size))⟩
            have hDr : Hid (∀ W, (W.cell? ⟨wr.heap.size, 0, none⟩ = some (.string X) ∧ W.cell? ⟨wr.heap.size, 1, none⟩ = some (.string Y) ∧ Below w.heap.size w W ∧ Below wp.heap.size wp W) → (W.drew.cell? ⟨wr.heap.size, 0, none⟩ = some (.string X) ∧ W.drew.cell? ⟨wr.heap.size, 1, none⟩ = some (.string Y) ∧ Below w.heap.size w W.drew ∧ Below wp.heap.size wp W.drew)) := Lib.hid fun W hW => hS.out _ hW.2.2.2.drew
            have hS0 := Lib.hid (hS.out wp (Below.refl _ _))
            have hS00 := Lib.hid (hS.out _ (Below.refl wp.heap.size wp).drew)
            clear hst pa bp hhn htk hvl
            go_wp2_with fail
            go_region_held3 (fun W => W.cell? ⟨wr.heap.size, 0, none⟩ = some (.string X) ∧ W.cell? ⟨wr.heap.size, 1, none⟩ = some (.string Y) ∧ Below w.heap.size w W ∧ Below wp.heap.size wp W)
              (first | assumption | exact hS0.out | exact hS00.out | exact hDr.out _ (by assumption) | (trace_state; fail))
              (first
                | (go_at_call 79; (with_reducible refine (hr1.out _ ?_).mono ?_); (first | assumption | exact hS0.out | exact hS00.out); rintro e w11 ⟨rfl, hS11⟩)
                | (go_at_call 119; (with_reducible refine (hr2.out _ ?_).mono ?_); (first | assumption | exact hS0.out | exact hS00.out); rintro e w12 ⟨rfl, hS12⟩)
                | (go_at_call 120; (with_reducible refine (hr3.out _ ?_).mono ?_); (first | assumption | exact hS0.out | exact hS00.out); rintro e w13 ⟨rfl, hS13⟩))
            all_goals
              have hbn := hS13.2.2.1
              clear hr1 hr2 hr3 hDr hS0 hS00 hS
              cases b3 with
              | true =>
                go_wp2
                go_ret
                exact ⟨by rw [← Hn.out]; rfl, hbn⟩
              | false =>
                have Hn2 := Lib.hid (show parsC (l.drop (i + 1)) = R from Hn.out)
                go_wp2
                go_roundw
                case rel => exact ⟨i + 1, by omega, by go_num, Hn2, hbn⟩
                case measure => simp [intOf]; omega
      · obtain rfl : i = k := by omega
        have hall : true = R := by
          rw [← hg.out, List.drop_of_length_le (by rw [Hk.out]; exact Nat.le_refl _)]
          rfl
        subst hall
        clear hg
        go_wp2
        go_ret
        exact ⟨rfl, hbr⟩
  · rw [decide_eq_false h8, Bool.false_and]
    go_enter Tryz.func80, Tryz.ntmps80
    go_wp2
    go_ret
    exact ⟨rfl, Below.refl _ _⟩
end Go.Proofs.YtjikghndoklajaaGreatDoor
namespace Go.Proofs.YtjikghndoklajaaGreatDoor
open Go.RowKit

def TypAt (w : World) (B : Nat) (X Y : ByteArray) (ao : Option Addr) (n cap : Nat) : Prop := w.heap[B]? = some (.cells #[.string X, .string Y, .slice ao n cap] 26 (0, 0))
section
variable {w w' : World} {B : Nat} {X Y : ByteArray} {ao : Option Addr} {n cap : Nat}
theorem TypAt.lt (h : TypAt w B X Y ao n cap) : B < w.heap.size := heap_lt h
theorem TypAt.cells (h : TypAt w B X Y ao n cap) : w.cell? ⟨B, 0, none⟩ = some (.string X) ∧ w.cell? ⟨B, 1, none⟩ = some (.string Y) ∧ w.cell? ⟨B, 2, none⟩ = some (.slice ao n cap) ∧ w.frozen? ⟨B, 0, none⟩ = false ∧ w.frozen? ⟨B, 1, none⟩ = false ∧ w.frozen? ⟨B, 2, none⟩ = false :=
  ⟨Lib.cell_of_heap h 0, Lib.cell_of_heap h 1, Lib.cell_of_heap h 2, Lib.frozen_of_heap h 0, Lib.frozen_of_heap h 1, Lib.frozen_of_heap h 2⟩
theorem TypAt.below (h : TypAt w B X Y ao n cap) (hb : Below w.heap.size w w') : TypAt w' B X Y ao n cap := (hb.block _ h.lt).trans h
theorem typ_new (w : World) (X Y : ByteArray) (ao : Option Addr) (n cap : Nat) : TypAt (w.alloc (.cells #[.string X, .string Y, .slice ao n cap] 26)) w.heap.size X Y ao n cap := heap_alloc_new w _
theorem TypAt.put (h : TypAt w B X Y ao n cap) (X' Y' : ByteArray) (ao' : Option Addr) (n' cap' : Nat) : TypAt (((w.setCell ⟨B, 0, none⟩ (.string X')).setCell ⟨B, 1, none⟩ (.string Y')).setCell ⟨B, 2, none⟩ (.slice ao' n' cap')) B X' Y' ao' n' cap' := by
  unfold TypAt at h ⊢
  have h1 := heap_setCell_same w B 0 _ _ (.string X') h
  have h2 := heap_setCell_same _ B 1 _ _ (.string Y') h1
  have h3 := heap_setCell_same _ B 2 _ _ (.slice ao' n' cap') h2
  rw [h3]
  rfl
theorem TypAt.main (h : TypAt w B X Y ao n cap) (X' : ByteArray) : TypAt (w.setCell ⟨B, 0, none⟩ (.string X')) B X' Y ao n cap := by
  unfold TypAt at h ⊢
  rw [heap_setCell_same w B 0 _ _ (.string X') h]
  rfl
theorem TypAt.sub (h : TypAt w B X Y ao n cap) (Y' : ByteArray) : TypAt (w.setCell ⟨B, 1, none⟩ (.string Y')) B X Y' ao n cap := by
  unfold TypAt at h ⊢
  rw [heap_setCell_same w B 1 _ _ (.string Y') h]
  rfl
theorem TypAt.pars (h : TypAt w B X Y ao n cap) (ao' : Option Addr) (n' cap' : Nat) : TypAt (w.setCell ⟨B, 2, none⟩ (.slice ao' n' cap')) B X Y ao' n' cap' := by
  unfold TypAt at h ⊢
  rw [heap_setCell_same w B 2 _ _ (.slice ao' n' cap') h]
  rfl
theorem below_putT {M : Nat} {v : World} (h : Below M v w) (hB : M ≤ B) (a b c : Value) : Below M v (((w.setCell ⟨B, 0, none⟩ a).setCell ⟨B, 1, none⟩ b).setCell ⟨B, 2, none⟩ c) :=
  ((h.setCell (p := ⟨B, 0, none⟩) hB _).setCell (p := ⟨B, 1, none⟩) hB _).setCell (p := ⟨B, 2, none⟩) hB _
end
def typeV (t : TypeC) (v : Value) : Value := .agg #[.string (textQ t.1), .string (textQ t.2.1), v]
theorem ParsAt.slice {w : World} {B : Nat} {v : Value} {l : List ParC} (h : ParsAt w B v l) : ∃ ao cap, v = .slice ao l.length cap ∧ l.length ≤ cap ∧ cap ≤ maxLen := by
  obtain ⟨ao, cap, h1, h2, h3, _⟩ := h
  exact ⟨ao, cap, h1, h2, h3⟩

set_option maxRecDepth 100000 in
set_option maxHeartbeats 4000000 in
theorem cright_any (B : Nat) (v : Value) (t : TypeC) (w : World) (h : ParsAt w B v t.2.2) (hB : B ≤ w.heap.size) :
    Calls Tryz.prog 46 #[typeV t v] w fun e w' => e = .returned (.bool (rightC t)) ∧ Below w.heap.size w w' := by
  obtain ⟨ao, cap, rfl, hc1, hc2⟩ := h.slice
  have h1 := fun W => cistok_any (textQ t.1) W
  have h2 := fun W => cistok_any (textQ t.2.1) W
  simp only [show (textQ t.1).data.toList = t.1 from rfl, show (textQ t.2.1).data.toList = t.2.1 from rfl] at h1 h2
  have hp : Hid (∀ W, Below w.heap.size w W → Calls Tryz.prog 80 #[.slice ao t.2.2.length cap] W fun e w' => e = .returned (.bool (decide (t.2.2.length ≤ 8) && parsC t.2.2)) ∧ Below W.heap.size W w') := Lib.hid fun W hW => crightp_any B _ t.2.2 W (h.below hW hB) (Nat.le_trans hB hW.size)
  unfold rightC typeV
  obtain ⟨X, hX⟩ : ∃ X, textQ t.1 = X := ⟨_, rfl⟩
  obtain ⟨Y, hY⟩ : ∃ Y, textQ t.2.1 = Y := ⟨_, rfl⟩
  obtain ⟨n, hn⟩ : ∃ n, t.2.2.length = n := ⟨_, rfl⟩
  obtain ⟨b1, hb1⟩ : ∃ b, tokT t.1 = b := ⟨_, rfl⟩
  obtain ⟨b2, hb2⟩ : ∃ b, tokT t.2.1 = b := ⟨_, rfl⟩
  obtain ⟨b3, hb3⟩ : ∃ b, (decide (n ≤ 8) && parsC t.2.2) = b := ⟨_, rfl⟩
  simp only [hX, hb1] at h1
  simp only [hY, hb2] at h2
  rw [hn] at hp hc1
  rw [hb3] at hp
  rw [hX, hY, hb1, hb2, hn, hb3]
  obtain ⟨w0, hw0⟩ : ∃ w0, w.alloc (.cells #[.string X, .string Y, .slice ao n cap] 26) = w0 := ⟨_, rfl⟩
  have b0 : Below w.heap.size w w0 := by rw [← hw0]; exact (Below.refl _ _).alloc (Nat.le_refl _) _
  have t0 : TypAt w0 w.heap.size X Y ao n cap := by rw [← hw0]; exact typ_new w _ _ _ _ _
  obtain ⟨c0, c1, c2, _⟩ := t0.cells
  have hp0 := hp.out w0 b0
  clear h hX hY hn hb1 hb2 hb3 t0 hp
  cases b1 with
  | false =>
    go_enter Tryz.func46, Tryz.ntmps46
    go_wp2_with (go_at_call 79; refine (h1 _).mono ?_; rintro e w1 ⟨rfl, h9⟩; obtain rfl := h9.symm)
    go_ret
    exact ⟨rfl, b0⟩
  | true =>
    cases b2 with
    | false =>
      go_enter Tryz.func46, Tryz.ntmps46
      go_wp2_with (first | (go_at_call 79; (with_reducible refine (h1 _).mono ?_); rintro e w1 ⟨rfl, h9⟩; obtain rfl := h9.symm) | (go_at_call 79; (with_reducible refine (h2 _).mono ?_); rintro e w1 ⟨rfl, h9⟩; obtain rfl := h9.symm))
      go_ret
      exact ⟨rfl, b0⟩
    | true =>
      go_enter Tryz.func46, Tryz.ntmps46
      go_wp2_with (first | (go_at_call 79; (with_reducible refine (h1 _).mono ?_); rintro e w1 ⟨rfl, h9⟩; obtain rfl := h9.symm) | (go_at_call 79; (with_reducible refine (h2 _).mono ?_); rintro e w1 ⟨rfl, h9⟩; obtain rfl := h9.symm) | (go_at_call 80; refine hp0.mono ?_; rintro e w1 ⟨rfl, hw1⟩))
      go_ret
      exact ⟨rfl, b0.trans (hw1.mono b0.size)⟩

theorem sclone_anyC (s : ByteArray) (w : World) (hs : s.size ≤ 281474976710656) : Calls Tryz.prog 20 #[.string s] w fun e w' => e = .returned (.string s) ∧ Below w.heap.size w w' := by
  have hc := Tryz.stringslite_Clone s w hs
  go_enter Tryz.func20, Tryz.ntmps20
  go_wp2_with (go_at_call 34; refine hc.mono ?_; rintro e w' ⟨rfl, hw⟩)
  go_ret
  exact ⟨rfl, hw⟩
def paramV (l : List ParC) (n : TextA) : Value := match findC l n with
  | none => .tuple #[.string ⟨#[]⟩, .bool false]
  | some p => .tuple #[.string (textQ p.2), .bool true]
set_option maxRecDepth 100000 in
set_option maxHeartbeats 4000000 in
theorem cparam_any (B : Nat) (v : Value) (t : TypeC) (n : TextA) (w : World) (h : ParsAt w B v t.2.2) (hB : B ≤ w.heap.size) (hs : ∀ p ∈ t.2.2, p.2.length ≤ 281474976710656) :
    Calls Tryz.prog 41 #[typeV t v, .string (textQ n)] w fun e w' => e = .returned (paramV t.2.2 n) ∧ Below w.heap.size w w' := by
  obtain ⟨ao, cap, rfl, hc1, hc2⟩ := h.slice
  have hp : Hid (∀ W, Below w.heap.size w W → Calls Tryz.prog 68 #[.slice ao t.2.2.length cap, .string (textQ n)] W fun e w' => e = .returned (.int .i64 (idxC t.2.2 n)) ∧ Below W.heap.size W w') := Lib.hid fun W hW => cplace_any B _ t.2.2 n W (h.below hW hB) (Nat.le_trans hB hW.size)
  have Hat : Hid (∀ W, Below w.heap.size w W → ParsAt W B (.slice ao t.2.2.length cap) t.2.2) := Lib.hid fun W hW => h.below hW hB
  have HS := Lib.hid hs
  unfold typeV paramV
  unfold maxLen at hc2
  obtain ⟨X, hX⟩ : ∃ X, textQ t.1 = X := ⟨_, rfl⟩
  obtain ⟨Y, hY⟩ : ∃ Y, textQ t.2.1 = Y := ⟨_, rfl⟩
  obtain ⟨N, hN⟩ : ∃ N, textQ n = N := ⟨_, rfl⟩
  obtain ⟨l, hl⟩ : ∃ l, t.2.2 = l := ⟨_, rfl⟩
  rw [hl] at hp Hat HS hc1
  rw [hX, hY, hN, hl]
  rw [hN] at hp
  have hic := idx_cases l n
  obtain ⟨k, hk⟩ : ∃ k, l.length = k := ⟨_, rfl⟩
  rw [hk] at hp Hat hc1 ⊢
  have Hk := Lib.hid hk
  obtain ⟨w0, hw0⟩ : ∃ w0, w.alloc (.cells #[.string X, .string Y, .slice ao k cap] 26) = w0 := ⟨_, rfl⟩
  have b0 : Below w.heap.size w w0 := by rw [← hw0]; exact (Below.refl _ _).alloc (Nat.le_refl _) _
  have t0 : TypAt w0 w.heap.size X Y ao k cap := by rw [← hw0]; exact typ_new w _ _ _ _ _
  obtain ⟨c0, c1, c2, _⟩ := t0.cells
  have T0 := Lib.hid t0
  have hp0 := hp.out w0 b0
  clear h hX hY hN hl hk hs t0 hp
  rcases hic with ⟨h1, h2, _⟩ | ⟨i, hi, h1, h2, _⟩
  · rw [h1] at hp0
    rw [h2]
    clear h1 h2
    go_enter Tryz.func41, Tryz.ntmps41
    go_wp2_with (go_at_call 68; refine hp0.mono ?_; rintro e w1 ⟨rfl, hw1⟩)
    go_ret2
    exact ⟨rfl, b0.trans (hw1.mono b0.size)⟩
  · rw [h1] at hp0
    rw [h2]
    obtain ⟨f, hf⟩ : ∃ f, l[i] = f := ⟨_, rfl⟩
    have hfl := HS.out l[i] (List.getElem_mem hi)
    have hat : Hid (∀ W, Below w.heap.size w W → ∃ g off, ao = some ⟨g, off, none⟩ ∧ g < B ∧ W.cell? ⟨g, off + i * 2, none⟩ = some (.string (textQ f.1)) ∧ W.cell? ⟨g, off + i * 2 + 1, none⟩ = some (.string (textQ f.2))) := Lib.hid fun W hW => by
      obtain ⟨ao2, cap2, e, _, _, h4⟩ := Hat.out W hW
      cases e
      obtain ⟨g, off, q1, q2, q3, q4⟩ := h4 i hi
      rw [hf] at q3 q4
      exact ⟨g, off, q1, q2, q3, q4⟩
    rw [hf] at hfl ⊢
    obtain ⟨P, hP⟩ : ∃ P, textQ f.1 = P := ⟨_, rfl⟩
    obtain ⟨Q, hQ⟩ : ∃ Q, textQ f.2 = Q := ⟨_, rfl⟩
    rw [hP, hQ] at hat
    show Calls _ _ _ _ fun e w' => e = .returned (.tuple #[.string (textQ f.2), .bool true]) ∧ _
    rw [hQ]
    have hQs : Q.size ≤ 281474976710656 := by rw [← hQ]; exact hfl
    have hcl := fun W => sclone_anyC Q W hQs
    have hik : (i : Int) < (k : Int) := by have := Hk.out; omega
    have hi0 : ¬ (i : Int) < 0 := by omega
    clear h1 h2 hf hfl hP hQ hQs Hat hi
    go_enter Tryz.func41, Tryz.ntmps41
    go_wp2_with fail
    refine hp0.mono ?_
    rintro e w1 ⟨rfl, hw1⟩
    have b1 := b0.trans (hw1.mono b0.size)
    obtain ⟨g, off, rfl, q1, q2, q3⟩ := hat.out w1 b1
    obtain ⟨d0, d1, d2, _⟩ := (T0.out.below hw1).cells
    clear hw1 hp0 hat
    go_wp2_with (go_at_call 20; refine (hcl _).mono ?_; rintro e w2 ⟨rfl, hw2⟩)
    go_ret2
    exact ⟨rfl, b1.trans (hw2.mono b1.size)⟩
end Go.Proofs.YtjikghndoklajaaGreatDoor
namespace Go.Proofs.YtjikghndoklajaaGreatDoor
open Go.RowKit

structure TakeK (T B : Nat) (w w' : World) : Prop where
  os : w'.os = w.os
  tape : w'.tape = w.tape
  output : w'.output = w.output
  size : w.heap.size ≤ w'.heap.size
  block : ∀ k, k < B → k ≠ T → w'.heap[k]? = w.heap[k]?
section
variable {T B M : Nat} {u w w' : World}
theorem TakeK.of (h : Below B w w') : TakeK T B w w' := ⟨h.os, h.tape, h.output, h.size, fun k hk _ => h.block k hk⟩
theorem TakeK.refl (T B : Nat) (w : World) : TakeK T B w w := .of (Below.refl _ _)
theorem TakeK.trans (h : TakeK T B u w) (k : TakeK T B w w') : TakeK T B u w' :=
  ⟨k.os.trans h.os, k.tape.trans h.tape, k.output.trans h.output, Nat.le_trans h.size k.size, fun i hi hne => (k.block i hi hne).trans (h.block i hi hne)⟩
theorem TakeK.mono (h : TakeK T B w w') (hM : M ≤ B) : TakeK T M w w' := ⟨h.os, h.tape, h.output, h.size, fun k hk => h.block k (Nat.lt_of_lt_of_le hk hM)⟩
theorem TakeK.set (h : TakeK T B u w) (v : Value) : TakeK T B u (w.setCell ⟨T, 0, none⟩ v) :=
  h.trans ⟨rfl, rfl, rfl, by simp [World.setCell], fun k _ hne => Below.heap_setCell _ ⟨T, 0, none⟩ _ _ hne⟩
theorem TakeK.below (h : TakeK T B w w') (hM : M ≤ B) (hT : M ≤ T) : Below M w w' := ⟨h.os, h.tape, h.output, h.size, fun k hk => h.block k (by omega) (by omega)⟩
theorem TakeK.heap {k : Nat} {o : Obj} (h : TakeK T B w w') (ho : w.heap[k]? = some o) (hk : k < B) (hne : k ≠ T) : w'.heap[k]? = some o := (h.block k hk hne).trans ho
theorem TakeK.box {b : Nat} {t : TypeId} {v : Value} (h : TakeK T B w w') (hb : Boxed w b t v) (hk : b < B) (hne : b ≠ T) : Boxed w' b t v := h.heap hb hk hne
theorem TakeK.cell (h : TakeK T B w w') {p : Addr} (hp : p.block < B) (hne : p.block ≠ T) : w'.cell? p = w.cell? p := World.cell?_of_block (w := w) (h.block p.block hp hne)
end
def takeV (T : Nat) : Value := .func (.func 103) #[] #[.pointer (some ⟨T, 0, none⟩)]
theorem enter_take : ∀ args w, (callFunc 103 args).run Tryz.prog w = .ok (.enter 103 args) w := enters_of Tryz.func103 (by kernel_rfl) rfl
theorem enter_one : ∀ args w, (callFunc 141 args).run Tryz.prog w = .ok (.enter 141 args) w := enters_of Tryz.func141 (by kernel_rfl) rfl

set_option maxRecDepth 100000 in
set_option maxHeartbeats 2000000 in
theorem ctake_gen {σ : Type} (g : Nat) (lb : Array Value) (eg : ∀ args w, (callFunc g args).run Tryz.prog w = .ok (.enter g args) w) (f : σ → UInt8 → Bool × σ) (I : Nat → σ → World → Prop) (B : Nat) (st0 : σ) (T : Nat) (s : TextA) (w : World)
    (hT : Boxed w T 9 (.string (textQ s))) (hTB : T < B) (hask : AskS g lb f I B (s.length + 1)) (h0 : I 0 st0 w) (hI : ∀ j st W v, (∃ x, Boxed W T 9 x) → I j st W → I j st (W.setCell ⟨T, 0, none⟩ v)) (hs : s.length ≤ 1000000000) :
    Calls Tryz.prog 103 #[.func (.func g) #[] lb, .pointer (some ⟨T, 0, none⟩)] w fun e w' => e = .returned (.string (textQ (s.take (runS f st0 s).1))) ∧ Boxed w' T 9 (.string (textQ (s.drop (runS f st0 s).1))) ∧ (∃ j, j ≤ s.length + 1 ∧ I j (runS f st0 s).2 w') ∧ TakeK T B w w' := by
  have hr := crunof_any g lb eg f I B st0 (textQ s) w hask h0 hs
  rw [show (textQ s).data.toList = s from rfl] at hr
  have hle := run_le f s st0
  obtain ⟨R, hR⟩ : ∃ R, runS f st0 s = R := ⟨_, rfl⟩
  rw [hR] at hr hle ⊢
  obtain ⟨n, st⟩ := R
  simp only at hr hle ⊢
  obtain ⟨S, hS⟩ : ∃ S, textQ s = S := ⟨_, rfl⟩
  have hSz : S.size = s.length := by rw [← hS]; rfl
  have hSd : S.data.toList = s := by rw [← hS]; rfl
  have e1 : S.extract 0 n = textQ (s.take n) := by rw [cut_text, hSd]; simp
  have e2 : S.extract n S.size = textQ (s.drop n) := by
    rw [cut_text, hSd]
    congr 1
    rw [List.take_of_length_le (by rw [List.length_drop, hSz]; exact Nat.le_refl _)]
  rw [hS] at hr hT
  have c1 := hT.cell
  have f1 := hT.frozen
  have hn : (n : Int) ≤ (S.size : Int) := by omega
  have HT := Lib.hid hT
  have HI := Lib.hid hI
  have E1 := Lib.hid e1
  have E2 := Lib.hid e2
  have Hs := Lib.hid (And.intro hSz hle)
  clear hask h0 hR hS hT hSd e1 e2 hI hSz hle
  go_enter Tryz.func103, Tryz.ntmps103
  go_wp2_with fail
  refine hr.mono ?_
  rintro e w1 ⟨rfl, ⟨j, hj, hij⟩, hw1⟩
  have hb1 : Boxed w1 T 9 (.string S) := (hw1.block T hTB).trans HT.out
  have c2 := hb1.cell
  have f2 := hb1.frozen
  have F := Lib.hid (show Boxed (w1.setCell ⟨T, 0, none⟩ (.string (S.extract n S.size))) T 9 (.string (S.extract n S.size)) ∧ I j st (w1.setCell ⟨T, 0, none⟩ (.string (S.extract n S.size))) ∧ TakeK T B w (w1.setCell ⟨T, 0, none⟩ (.string (S.extract n S.size))) from ⟨hb1.set _, HI.out j st w1 _ ⟨_, hb1⟩ hij, (TakeK.of hw1).set _⟩)
  have hj2 : j ≤ s.length + 1 := by have := Hs.out.1; omega
  clear hr hij hw1 hb1 hj
  go_wp2
  go_ret
  obtain ⟨q1, q2, q3⟩ := F.out
  refine ⟨?_, ?_, ⟨j, hj2, q2⟩, q3⟩
  · rw [← E1.out]
    rfl
  · rw [← E2.out]
    exact q1
theorem ctake_pure (g : Nat) (eg : ∀ args w, (callFunc g args).run Tryz.prog w = .ok (.enter g args) w) (p : UInt8 → Bool) (hask : ∀ W, AskC g #[] p W) (T : Nat) (s : TextA) (w : World)
    (hT : Boxed w T 9 (.string (textQ s))) (hs : s.length ≤ 1000000000) :
    Calls Tryz.prog 103 #[.func (.func g) #[] #[], .pointer (some ⟨T, 0, none⟩)] w fun e w' => e = .returned (.string (textQ (s.takeWhile p))) ∧ Boxed w' T 9 (.string (textQ (s.dropWhile p))) ∧ TakeK T w.heap.size w w' := by
  have h := ctake_gen g #[] eg (pureC p) (fun _ _ _ => True) w.heap.size () T s w hT hT.lt (fun i st W c _ _ => (hask W c).mono fun e w' ⟨he, hw⟩ => ⟨he, trivial, by rw [hw]; exact Below.refl _ _⟩) trivial (fun _ _ _ _ _ _ => trivial) hs
  obtain ⟨a, b⟩ := run_pure p s
  rw [a, b] at h
  exact h.mono fun e w' ⟨h1, h2, _, h3⟩ => ⟨h1, h2, h3⟩

def oneS (want : UInt8) (op : Bool) (c : UInt8) : Bool × Bool := (op && (c == want), false)
theorem run_one (c : UInt8) (s : TextA) : (s.take (runS (oneS c) true s).1).isEmpty = !((cutA c s).isSome) ∧ s.drop (runS (oneS c) true s).1 = (cutA c s).getD s := by
  cases s with
  | nil => exact ⟨rfl, rfl⟩
  | cons d r =>
    rw [cutA_cons]
    by_cases hd : d = c
    · subst hd
      have e : runS (oneS d) true (d :: r) = ((runS (oneS d) false r).1 + 1, (runS (oneS d) false r).2) := by
        rw [runS, if_pos (by simp [oneS])]
        rfl
      have e2 : (runS (oneS d) false r).1 = 0 := by
        cases r with
        | nil => rfl
        | cons x r =>
          rw [runS, if_neg (by simp [oneS])]
      rw [e, e2, if_pos rfl]
      exact ⟨rfl, rfl⟩
    · have e : runS (oneS c) true (d :: r) = (0, false) := by
        rw [runS, if_neg (by simp [oneS, hd])]
        rfl
      rw [e, if_neg hd]
      exact ⟨rfl, rfl⟩
set_option maxRecDepth 100000 in
theorem cone1_any (want : UInt8) (O N B : Nat) (op : Bool) (c : UInt8) (w : World) (hO : Boxed w O 4 (.bool op)) (hN : Boxed w N 5 (.int .u8 (want.toNat : Int))) (hB : B ≤ O) :
    Calls Tryz.prog 141 #[.int .u8 (c.toNat : Int), .pointer (some ⟨O, 0, none⟩), .pointer (some ⟨N, 0, none⟩)] w fun e w' => e = .returned (.bool (op && (c == want))) ∧ (Boxed w' O 4 (.bool false) ∧ Boxed w' N 5 (.int .u8 (want.toNat : Int))) ∧ Below B w w' := by
  have c1 := hO.cell
  have f1 := hO.frozen
  have c2 := hN.cell
  have hne : N ≠ O := by
    rintro rfl
    have h1 : w.heap[N]? = some (.cells #[.bool op] 4 (0, 0)) := hO
    have h2 : w.heap[N]? = some (.cells #[.int .u8 (want.toNat : Int)] 5 (0, 0)) := hN
    rw [h1] at h2
    simp at h2
  have F := Lib.hid (And.intro (hO.set (.bool false)) (And.intro (hN.other hne (.bool false)) ((Below.refl B w).setCell (p := ⟨O, 0, none⟩) hB (.bool false))))
  have hcw : ((c.toNat : Int) == (want.toNat : Int)) = (c == want) := by
    by_cases h : c = want
    · subst h
      simp
    · rw [beq_eq_false_iff_ne.2 h, beq_eq_false_iff_ne]
      exact fun e => h (UInt8.toNat_inj.1 (by omega))
  clear hO hN
  cases op with
  | true =>
    rw [Bool.true_and, ← hcw]
    clear hcw
    go_enter Tryz.func141, Tryz.ntmps141
    go_wp2
    go_ret
    exact ⟨rfl, ⟨F.out.1, F.out.2.1⟩, F.out.2.2⟩
  | false =>
    rw [Bool.false_and]
    clear hcw
    go_enter Tryz.func141, Tryz.ntmps141
    go_wp2
    go_ret
    exact ⟨rfl, ⟨F.out.1, F.out.2.1⟩, F.out.2.2⟩

set_option maxRecDepth 100000 in
set_option maxHeartbeats 2000000 in
theorem cone_any (c : UInt8) (T : Nat) (s : TextA) (w : World) (hT : Boxed w T 9 (.string (textQ s))) (hs : s.length ≤ 1000000000) :
    Calls Tryz.prog 100 #[takeV T, .int .u8 (c.toNat : Int)] w fun e w' => e = .returned (.bool (cutA c s).isSome) ∧ Boxed w' T 9 (.string (textQ ((cutA c s).getD s))) ∧ TakeK T w.heap.size w w' := by
  have hmf : ∀ (fn : Fn) (first cap : Array Value) (w : World), (Instr.makeFunc fn first cap).run Tryz.prog w = .ok (.func fn first cap) w := fun _ _ _ _ => rfl
  have het := enter_take
  obtain ⟨w0, hw0⟩ : ∃ w0, (w.alloc (.cells #[.int .u8 (c.toNat : Int)] 5)).alloc (.cells #[.bool true] 4) = w0 := ⟨_, rfl⟩
  have l0 : Below w.heap.size w w0 := by rw [← hw0]; exact ((Below.refl _ _).alloc (Nat.le_refl _) _).alloc (by simp) _
  have xN : Boxed w0 w.heap.size 5 (.int .u8 (c.toNat : Int)) := by rw [← hw0]; exact (Boxed.new _ _ _).alloc _
  have xO : Boxed w0 (w.heap.size + 1) 4 (.bool true) := by
    rw [← hw0]
    have := Boxed.new (w.alloc (.cells #[.int .u8 (c.toNat : Int)] 5)) 4 (.bool true)
    rw [World.size_alloc] at this
    exact this
  have hTl := hT.lt
  have hg := ctake_gen 141 #[.pointer (some ⟨w.heap.size + 1, 0, none⟩), .pointer (some ⟨w.heap.size, 0, none⟩)] enter_one (oneS c) (fun _ op W => Boxed W (w.heap.size + 1) 4 (.bool op) ∧ Boxed W w.heap.size 5 (.int .u8 (c.toNat : Int))) w.heap.size true T s w0 (boxed_below hT l0) hTl
    (fun i op W d _ ⟨h1, h2⟩ => cone1_any c (w.heap.size + 1) w.heap.size w.heap.size op d W h1 h2 (by omega)) ⟨xO, xN⟩ (fun j op W v _ ⟨h1, h2⟩ => ⟨h1.other (by omega) _, h2.other (by omega) _⟩) hs
  obtain ⟨e1, e2⟩ := run_one c s
  rw [e2] at hg
  obtain ⟨X, hX⟩ : ∃ X, textQ (s.take (runS (oneS c) true s).1) = X := ⟨_, rfl⟩
  have hXe : X.toList.isEmpty = !((cutA c s).isSome) := by
    rw [← hX, Lib.toList_data]
    exact e1
  have hcall : Calls Tryz.prog 103 #[.func (.func 141) #[] #[.pointer (some ⟨w.heap.size + 1, 0, none⟩), .pointer (some ⟨w.heap.size, 0, none⟩)], .pointer (some ⟨T, 0, none⟩)] w0 fun e w' => e = .returned (.string X) ∧ Boxed w' T 9 (.string (textQ ((cutA c s).getD s))) ∧ TakeK T w.heap.size w w' := by
    rw [hX] at hg
    exact hg.mono fun e w' ⟨h1, h2, _, h3⟩ => ⟨h1, h2, (TakeK.of l0).trans h3⟩
  obtain ⟨b, hb⟩ : ∃ b, (cutA c s).isSome = b := ⟨_, rfl⟩
  rw [hb] at hXe ⊢
  obtain ⟨R, hR⟩ : ∃ R, textQ ((cutA c s).getD s) = R := ⟨_, rfl⟩
  rw [hR] at hcall ⊢
  unfold takeV
  clear hT hg e1 e2 hX hb hR xN xO l0 hTl
  cases b with
  | true =>
    rw [Bool.not_true] at hXe
    go_enter Tryz.func100, Tryz.ntmps100
    go_wp2_with (go_at_fn 103; refine hcall.mono ?_; rintro e w1 ⟨rfl, h1, h2⟩)
    go_ret
    exact ⟨rfl, h1, h2⟩
  | false =>
    rw [Bool.not_false] at hXe
    go_enter Tryz.func100, Tryz.ntmps100
    go_wp2_with (go_at_fn 103; refine hcall.mono ?_; rintro e w1 ⟨rfl, h1, h2⟩)
    go_ret
    exact ⟨rfl, h1, h2⟩
theorem name_ascii {c : UInt8} (h : inNameC c = true) : c.toNat < 128 := by
  unfold inNameC tokC lowA at h
  simp only [Bool.or_eq_true, decide_eq_true_eq] at h
  rcases h with h | (h | h) | h
  · omega
  · omega
  · omega
  · have h3 : c ∈ marksC := by simpa using h
    simp only [marksC, List.mem_cons, List.not_mem_nil, or_false] at h3
    rcases h3 with rfl | rfl | rfl | rfl | rfl | rfl | rfl | rfl | rfl <;> decide
theorem take_le (p : UInt8 → Bool) (s : TextA) : (s.takeWhile p).length ≤ s.length := (List.takeWhile_sublist _).length_le

set_option maxRecDepth 100000 in
set_option maxHeartbeats 2000000 in
theorem crdname_any (T : Nat) (s : TextA) (w : World) (hT : Boxed w T 9 (.string (textQ s))) (hs : s.length ≤ 1000000000) :
    Calls Tryz.prog 99 #[takeV T] w fun e w' => e = .returned (.string (textQ (wordC s))) ∧ Boxed w' T 9 (.string (textQ (s.dropWhile inNameC))) ∧ TakeK T w.heap.size w w' := by
  have het := enter_take
  have h1 := ctake_pure 140 enter_nameC inNameC ask_nameC T s w hT hs
  have hl := take_le inNameC s
  have h2 := fun W => Tryz.strings_ToLower_ascii (textQ (s.takeWhile inNameC)) W (by show (s.takeWhile inNameC).length ≤ _; omega) (fun j b hj => name_ascii (by
    have hm : b ∈ s.takeWhile inNameC := List.mem_of_getElem? hj
    exact List.all_eq_true.1 (List.all_takeWhile) b hm))
  have h3 := fun W => sclone_anyC (textQ (wordC s)) W (by show (wordC s).length ≤ _; unfold wordC; rw [List.length_map]; omega)
  have e : (⟨(Lib.toLowerA (textQ (s.takeWhile inNameC)).data.toList).toArray⟩ : ByteArray) = textQ (wordC s) := rfl
  simp only [e] at h2
  have hTl := hT.lt
  obtain ⟨X, hX⟩ : ∃ X, textQ (s.takeWhile inNameC) = X := ⟨_, rfl⟩
  obtain ⟨Y, hY⟩ : ∃ Y, textQ (wordC s) = Y := ⟨_, rfl⟩
  obtain ⟨R, hR⟩ : ∃ R, textQ (s.dropWhile inNameC) = R := ⟨_, rfl⟩
  simp only [hX, hY] at h2
  simp only [hY] at h3
  rw [hX, hR] at h1
  rw [hY, hR]
  unfold takeV
  clear hT hX hY hR e hl
  go_enter Tryz.func99, Tryz.ntmps99
  go_wp2_with fail
  refine h1.mono ?_
  rintro e w1 ⟨rfl, q1, q2⟩
  have Q := Lib.hid (And.intro q1 q2)
  clear h1 q1 q2
  go_wp2_with fail
  refine (h2 _).mono ?_
  rintro e w2 ⟨rfl, hw2⟩
  have Q2 := Lib.hid (show Boxed w2 T 9 (.string R) ∧ TakeK T w.heap.size w w2 from ⟨boxed_below Q.out.1 hw2, Q.out.2.trans (.of (hw2.mono Q.out.2.size))⟩)
  clear h2 hw2 Q
  go_wp2_with fail
  refine (h3 _).mono ?_
  rintro e w3 ⟨rfl, hw3⟩
  have Q3 := Lib.hid (show Boxed w3 T 9 (.string R) ∧ TakeK T w.heap.size w w3 from ⟨boxed_below Q2.out.1 hw3, Q2.out.2.trans (.of (hw3.mono Q2.out.2.size))⟩)
  clear h3 hw3 Q2
  go_wp2
  go_ret
  exact ⟨rfl, Q3.out.1, Q3.out.2⟩
end Go.Proofs.YtjikghndoklajaaGreatDoor
