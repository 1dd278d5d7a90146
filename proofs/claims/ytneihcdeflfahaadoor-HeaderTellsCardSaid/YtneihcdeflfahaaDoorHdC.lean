/-
  What header.layer's closure comes to: a word laid behind a line.
-/
import Derived.Test.YtneihcdeflfahaaDoorHdB
import Derived.Test.YtneihcdeflfahaaDoorKept
namespace Go.Proofs.YtneihcdeflfahaaDoor
open Go.RowKit

/-- All blocks but N, b, c and the bytes' own lie as they lay. -/
def KeptH (N b c : Nat) (w w' : World) : Prop := w.heap.size ≤ w'.heap.size ∧ ∀ k o, w.heap[k]? = some o → k ≠ N → k ≠ b → k ≠ c → (∀ x fz, o ≠ .cells x 5 fz) → w'.heap[k]? = some o
theorem KeptH.refl (N b c : Nat) (w : World) : KeptH N b c w w := ⟨Nat.le_refl _, fun _ _ h _ _ _ _ => h⟩
theorem KeptH.trans {N b c : Nat} {u v w : World} (h : KeptH N b c u v) (k : KeptH N b c v w) : KeptH N b c u w := ⟨Nat.le_trans h.1 k.1, fun i o hi hN hb hc ho => k.2 i o (h.2 i o hi hN hb hc ho) hN hb hc ho⟩
theorem KeptH.of {N b c : Nat} {w w' : World} (h : Lib.OthersKept 5 (some b) w w') (hz : w.heap.size ≤ w'.heap.size) : KeptH N b c w w' := ⟨hz, fun k o hk _ hb _ ho => h k o hk (by simpa using hb) ho⟩
theorem KeptH.set {N b c : Nat} {u w : World} (h : KeptH N b c u w) (v : Value) : KeptH N b c u (w.setCell ⟨c, 0, none⟩ v) := ⟨by simpa [World.setCell] using h.1, fun k o hk hN hb hc ho =>
  (Below.heap_setCell w ⟨c, 0, none⟩ v k hc).trans (h.2 k o hk hN hb hc ho)⟩
theorem KeptH.setN {N b c : Nat} {u w : World} (h : KeptH N b c u w) (v : Value) : KeptH N b c u (w.setCell ⟨N, 0, none⟩ v) := ⟨by simpa [World.setCell] using h.1, fun k o hk hN hb hc ho =>
  (Below.heap_setCell w ⟨N, 0, none⟩ v k hN).trans (h.2 k o hk hN hb hc ho)⟩
theorem KeptH.box {N b c B : Nat} {w w' : World} {t : TypeId} {v : Value} (h : KeptH N b c w w') (ht : t ≠ 5) (hN : B ≠ N) (hb : B ≠ b) (hc : B ≠ c) (hx : Boxed w B t v) : Boxed w' B t v :=
  h.2 B _ hx hN hb hc (fun x fz e => by cases e; exact ht rfl)
/-- Unlike types lie in unlike blocks. -/
theorem box_neH {w : World} {C D : Nat} {s t : TypeId} {u v : Value} (hC : Boxed w C s u) (hD : Boxed w D t v) (h : s ≠ t) : C ≠ D := fun e => by
  have hC : w.heap[C]? = some (.cells #[u] s (0, 0)) := hC
  have hD : w.heap[D]? = some (.cells #[v] t (0, 0)) := hD
  rw [e, hD] at hC
  simp at hC
  exact h hC.2.symm

/-- Does a word begin a line anew? -/
def brkH (fr : Bool) (k : Nat) (x : TextH) : Bool := !fr && (decide (x ≠ []) && decide (78 < k + (1 + x.length)))
def pieceH (fr : Bool) (k : Nat) (x : TextH) : TextH := (if brkH fr k x = true then [13, 10] else []) ++ 32 :: x
def lineH (fr : Bool) (k : Nat) (x : TextH) : Nat := (if brkH fr k x = true then 0 else k) + (1 + x.length)

set_option maxRecDepth 100000 in
set_option maxHeartbeats 4000000 in
theorem hput_any (B b C D E : Nat) (acc : TextH) (k : Nat) (fr : Bool) (x : ByteArray) (w : World) (h : Lib.BuilderAt 47 5 B b (.pointer (some ⟨b, 0, none⟩)) (Lib.byteCells acc) w)
    (hC : Boxed w C 45 (.pointer (some ⟨b, 0, none⟩))) (hD : Boxed w D 3 (.int .i64 k)) (hE : Boxed w E 4 (.bool fr)) (hBD : B ≤ D) (hBE : B ≤ E) (hlen : acc.length + x.size + 3 ≤ 1000000000) (hBw : B ≤ w.heap.size) (hk : k ≤ 1000000) (hx : x.size ≤ 10000000) :
    Calls Tryd.prog 47 #[.string x, .pointer (some ⟨E, 0, none⟩), .pointer (some ⟨D, 0, none⟩), .pointer (some ⟨C, 0, none⟩)] w fun e w' => e = .returned (.bool (decide ((lineH fr k x.data.toList : Int) ≤ 998))) ∧
      (Lib.BuilderAt 47 5 B b (.pointer (some ⟨b, 0, none⟩)) (Lib.byteCells (acc ++ pieceH fr k x.data.toList)) w' ∧ Boxed w' E 4 (.bool false) ∧ Boxed w' D 3 (.int .i64 (lineH fr k x.data.toList : Nat)) ∧ Boxed w' C 45 (.pointer (some ⟨b, 0, none⟩)) ∧ Below B w w' ∧ KeptH E b D w w') := by
  have hxl : x.data.toList.length = x.size := rfl
  have nC := builder_ne h hC
  have nD := builder_ne h hD
  have nE := builder_ne h hE
  have nCD := box_neH hC hD (by decide)
  have nCE := box_neH hC hE (by decide)
  have nDE := box_neH hE hD (by decide)
  have c1 := hC.cell
  have c2 := hD.cell
  have c3 := hE.cell
  have f2 := hD.frozen
  have HC := Lib.hid hC
  have HD := Lib.hid hD
  have HE := Lib.hid hE
  have K0 := Lib.hid (KeptH.refl E b D w)
  have L0 := Lib.hid (Below.refl B w)
  have he0 : x.toList.isEmpty = decide (x.data.toList = []) := by
    rw [Lib.toList_data]
    cases x.data.toList <;> rfl
  cases hbk : brkH fr k x.data.toList with
  | false =>
    have e1 : acc ++ pieceH fr k x.data.toList = acc ++ [32] ++ x.data.toList := by unfold pieceH; rw [hbk, if_neg (by simp)]; simp
    have e2 : (lineH fr k x.data.toList : Int) = (k : Int) + (1 + (x.size : Int)) := by unfold lineH; rw [hbk, if_neg (by simp), hxl]; push_cast; rfl
    rw [e1, show ((lineH fr k x.data.toList : Nat) : Int) = _ from e2]
    unfold brkH at hbk
    cases fr with
    | true =>
      clear e1 e2 hbk hC hD hE hxl he0
      go_enter Tryd.func47, Tryd.ntmps47
      have hb2 := bwrite_k B b (Lib.byteCells (acc)) ⟨#[32]⟩ w h (by rw [Lib.byteCells_length]; show _ + 1 ≤ _; omega) hBw
      rw [show Lib.byteCells (acc) ++ Lib.strCells ⟨#[32]⟩ = Lib.byteCells (acc ++ [32]) by rw [Lib.byteCells_append (acc)]; rfl] at hb2
      go_wp2_with (go_at_call 23; refine hb2.mono ?_)
      rintro e w4 ⟨rfl, hbd4, hbe4, hoth4, hsz4⟩
      have hC4 := kept_box hoth4 (by decide) nC HC.out
      have hD4 := kept_box hoth4 (by decide) nD HD.out
      have hE4 := kept_box hoth4 (by decide) nE HE.out
      have c41 := hC4.cell
      have c42 := hD4.cell
      have c43 := hE4.cell
      have K4 := Lib.hid (K0.out.trans (KeptH.of (N := E) (c := D) hoth4 hsz4))
      have L4 := Lib.hid (L0.out.trans hbe4)
      have hb3 := bwrite_k B b (Lib.byteCells (acc ++ [32])) x w4 hbd4 (by rw [Lib.byteCells_length, List.length_append]; show _ + 1 + _ ≤ _; omega) (by omega)
      rw [show Lib.byteCells (acc ++ [32]) ++ Lib.strCells x = Lib.byteCells (acc ++ [32] ++ x.data.toList) by rw [Lib.byteCells_append (acc ++ [32])]; rfl] at hb3
      have HC4 := Lib.hid hC4
      have HD4 := Lib.hid hD4
      have HE4 := Lib.hid hE4
      clear hb2 hbd4 hbe4 hoth4 hC4 hD4 hE4
      go_wp2_with (go_at_call 23; refine hb3.mono ?_)
      rintro e w6 ⟨rfl, hbd6, hbe6, hoth6, hsz6⟩
      have hC6 := kept_box hoth6 (by decide) nC HC4.out
      have hD6 := kept_box hoth6 (by decide) nD HD4.out
      have hE6 := kept_box hoth6 (by decide) nE HE4.out
      have c61 := hD6.cell
      have c62 := hE6.cell
      have f61 := hD6.frozen
      have f62 := hE6.frozen
      have hE7 : Boxed (w6.setCell ⟨D, 0, none⟩ (.int .i64 ((k : Int) + (1 + (x.size : Int))))) E 4 (.bool true) := hE6.other nDE _
      have f71 := hE7.frozen
      have c71 := hE7.cell
      have hD8 : Boxed ((w6.setCell ⟨D, 0, none⟩ (.int .i64 ((k : Int) + (1 + (x.size : Int))))).setCell ⟨E, 0, none⟩ (.bool false)) D 3 (.int .i64 ((k : Int) + (1 + (x.size : Int)))) := (hD6.set _).other (fun e => nDE e.symm) _
      have c81 := hD8.cell
      have K6 := Lib.hid (((K4.out.trans (KeptH.of (N := E) (c := D) hoth6 hsz6)).set (.int .i64 ((k : Int) + (1 + (x.size : Int))))).setN (.bool false))
      have L6 := Lib.hid (((L4.out.trans hbe6).setCell (p := ⟨D, 0, none⟩) hBD (.int .i64 ((k : Int) + (1 + (x.size : Int))))).setCell (p := ⟨E, 0, none⟩) hBE (.bool false))
      have B6 := Lib.hid (builder_box (t := 4) (by decide) (.bool false) (builder_box (t := 3) (by decide) (.int .i64 ((k : Int) + (1 + (x.size : Int)))) hbd6 ⟨_, hD6⟩) ⟨_, hE7⟩)
      have C6 := Lib.hid ((hC6.other nCD (.int .i64 ((k : Int) + (1 + (x.size : Int))))).other nCE (.bool false))
      have E8 := Lib.hid (hE7.set (.bool false))
      have D8 := Lib.hid hD8
      clear hb3 hbd6 hbe6 hoth6 hC6 hD6 hE6 hE7 hD8 hsz4 hsz6
      go_wp2
      go_ret
      exact ⟨rfl, B6.out, E8.out, D8.out, C6.out, L6.out, K6.out⟩
    | false =>
      by_cases hx0 : x.data.toList = []
      · have hem : x.toList.isEmpty = true := by rw [he0, decide_eq_true hx0]
        clear e1 e2 hbk hC hD hE hxl he0 hx0
        go_enter Tryd.func47, Tryd.ntmps47
        have hb2 := bwrite_k B b (Lib.byteCells (acc)) ⟨#[32]⟩ w h (by rw [Lib.byteCells_length]; show _ + 1 ≤ _; omega) hBw
        rw [show Lib.byteCells (acc) ++ Lib.strCells ⟨#[32]⟩ = Lib.byteCells (acc ++ [32]) by rw [Lib.byteCells_append (acc)]; rfl] at hb2
        go_wp2_with (go_at_call 23; refine hb2.mono ?_)
        rintro e w4 ⟨rfl, hbd4, hbe4, hoth4, hsz4⟩
        have hC4 := kept_box hoth4 (by decide) nC HC.out
        have hD4 := kept_box hoth4 (by decide) nD HD.out
        have hE4 := kept_box hoth4 (by decide) nE HE.out
        have c41 := hC4.cell
        have c42 := hD4.cell
        have c43 := hE4.cell
        have K4 := Lib.hid (K0.out.trans (KeptH.of (N := E) (c := D) hoth4 hsz4))
        have L4 := Lib.hid (L0.out.trans hbe4)
        have hb3 := bwrite_k B b (Lib.byteCells (acc ++ [32])) x w4 hbd4 (by rw [Lib.byteCells_length, List.length_append]; show _ + 1 + _ ≤ _; omega) (by omega)
        rw [show Lib.byteCells (acc ++ [32]) ++ Lib.strCells x = Lib.byteCells (acc ++ [32] ++ x.data.toList) by rw [Lib.byteCells_append (acc ++ [32])]; rfl] at hb3
        have HC4 := Lib.hid hC4
        have HD4 := Lib.hid hD4
        have HE4 := Lib.hid hE4
        clear hb2 hbd4 hbe4 hoth4 hC4 hD4 hE4
        go_wp2_with (go_at_call 23; refine hb3.mono ?_)
        rintro e w6 ⟨rfl, hbd6, hbe6, hoth6, hsz6⟩
        have hC6 := kept_box hoth6 (by decide) nC HC4.out
        have hD6 := kept_box hoth6 (by decide) nD HD4.out
        have hE6 := kept_box hoth6 (by decide) nE HE4.out
        have c61 := hD6.cell
        have c62 := hE6.cell
        have f61 := hD6.frozen
        have f62 := hE6.frozen
        have hE7 : Boxed (w6.setCell ⟨D, 0, none⟩ (.int .i64 ((k : Int) + (1 + (x.size : Int))))) E 4 (.bool false) := hE6.other nDE _
        have f71 := hE7.frozen
        have c71 := hE7.cell
        have hD8 : Boxed ((w6.setCell ⟨D, 0, none⟩ (.int .i64 ((k : Int) + (1 + (x.size : Int))))).setCell ⟨E, 0, none⟩ (.bool false)) D 3 (.int .i64 ((k : Int) + (1 + (x.size : Int)))) := (hD6.set _).other (fun e => nDE e.symm) _
        have c81 := hD8.cell
        have K6 := Lib.hid (((K4.out.trans (KeptH.of (N := E) (c := D) hoth6 hsz6)).set (.int .i64 ((k : Int) + (1 + (x.size : Int))))).setN (.bool false))
        have L6 := Lib.hid (((L4.out.trans hbe6).setCell (p := ⟨D, 0, none⟩) hBD (.int .i64 ((k : Int) + (1 + (x.size : Int))))).setCell (p := ⟨E, 0, none⟩) hBE (.bool false))
        have B6 := Lib.hid (builder_box (t := 4) (by decide) (.bool false) (builder_box (t := 3) (by decide) (.int .i64 ((k : Int) + (1 + (x.size : Int)))) hbd6 ⟨_, hD6⟩) ⟨_, hE7⟩)
        have C6 := Lib.hid ((hC6.other nCD (.int .i64 ((k : Int) + (1 + (x.size : Int))))).other nCE (.bool false))
        have E8 := Lib.hid (hE7.set (.bool false))
        have D8 := Lib.hid hD8
        clear hb3 hbd6 hbe6 hoth6 hC6 hD6 hE6 hE7 hD8 hsz4 hsz6
        go_wp2
        go_ret
        exact ⟨rfl, B6.out, E8.out, D8.out, C6.out, L6.out, K6.out⟩
      · have hem : x.toList.isEmpty = false := by rw [he0, decide_eq_false hx0]
        have h78 : decide ((78 : Int) < (k : Int) + (1 + (x.size : Int))) = false := by
          rw [decide_eq_true hx0, hxl] at hbk
          have : ¬ 78 < k + (1 + x.size) := by simpa using hbk
          exact decide_eq_false (by omega)
        clear e1 e2 hbk hC hD hE hxl he0 hx0
        go_enter Tryd.func47, Tryd.ntmps47
        have hb2 := bwrite_k B b (Lib.byteCells (acc)) ⟨#[32]⟩ w h (by rw [Lib.byteCells_length]; show _ + 1 ≤ _; omega) hBw
        rw [show Lib.byteCells (acc) ++ Lib.strCells ⟨#[32]⟩ = Lib.byteCells (acc ++ [32]) by rw [Lib.byteCells_append (acc)]; rfl] at hb2
        go_wp2_with (go_at_call 23; refine hb2.mono ?_)
        rintro e w4 ⟨rfl, hbd4, hbe4, hoth4, hsz4⟩
        have hC4 := kept_box hoth4 (by decide) nC HC.out
        have hD4 := kept_box hoth4 (by decide) nD HD.out
        have hE4 := kept_box hoth4 (by decide) nE HE.out
        have c41 := hC4.cell
        have c42 := hD4.cell
        have c43 := hE4.cell
        have K4 := Lib.hid (K0.out.trans (KeptH.of (N := E) (c := D) hoth4 hsz4))
        have L4 := Lib.hid (L0.out.trans hbe4)
        have hb3 := bwrite_k B b (Lib.byteCells (acc ++ [32])) x w4 hbd4 (by rw [Lib.byteCells_length, List.length_append]; show _ + 1 + _ ≤ _; omega) (by omega)
        rw [show Lib.byteCells (acc ++ [32]) ++ Lib.strCells x = Lib.byteCells (acc ++ [32] ++ x.data.toList) by rw [Lib.byteCells_append (acc ++ [32])]; rfl] at hb3
        have HC4 := Lib.hid hC4
        have HD4 := Lib.hid hD4
        have HE4 := Lib.hid hE4
        clear hb2 hbd4 hbe4 hoth4 hC4 hD4 hE4
        go_wp2_with (go_at_call 23; refine hb3.mono ?_)
        rintro e w6 ⟨rfl, hbd6, hbe6, hoth6, hsz6⟩
        have hC6 := kept_box hoth6 (by decide) nC HC4.out
        have hD6 := kept_box hoth6 (by decide) nD HD4.out
        have hE6 := kept_box hoth6 (by decide) nE HE4.out
        have c61 := hD6.cell
        have c62 := hE6.cell
        have f61 := hD6.frozen
        have f62 := hE6.frozen
        have hE7 : Boxed (w6.setCell ⟨D, 0, none⟩ (.int .i64 ((k : Int) + (1 + (x.size : Int))))) E 4 (.bool false) := hE6.other nDE _
        have f71 := hE7.frozen
        have c71 := hE7.cell
        have hD8 : Boxed ((w6.setCell ⟨D, 0, none⟩ (.int .i64 ((k : Int) + (1 + (x.size : Int))))).setCell ⟨E, 0, none⟩ (.bool false)) D 3 (.int .i64 ((k : Int) + (1 + (x.size : Int)))) := (hD6.set _).other (fun e => nDE e.symm) _
        have c81 := hD8.cell
        have K6 := Lib.hid (((K4.out.trans (KeptH.of (N := E) (c := D) hoth6 hsz6)).set (.int .i64 ((k : Int) + (1 + (x.size : Int))))).setN (.bool false))
        have L6 := Lib.hid (((L4.out.trans hbe6).setCell (p := ⟨D, 0, none⟩) hBD (.int .i64 ((k : Int) + (1 + (x.size : Int))))).setCell (p := ⟨E, 0, none⟩) hBE (.bool false))
        have B6 := Lib.hid (builder_box (t := 4) (by decide) (.bool false) (builder_box (t := 3) (by decide) (.int .i64 ((k : Int) + (1 + (x.size : Int)))) hbd6 ⟨_, hD6⟩) ⟨_, hE7⟩)
        have C6 := Lib.hid ((hC6.other nCD (.int .i64 ((k : Int) + (1 + (x.size : Int))))).other nCE (.bool false))
        have E8 := Lib.hid (hE7.set (.bool false))
        have D8 := Lib.hid hD8
        clear hb3 hbd6 hbe6 hoth6 hC6 hD6 hE6 hE7 hD8 hsz4 hsz6
        go_wp2
        go_ret
        exact ⟨rfl, B6.out, E8.out, D8.out, C6.out, L6.out, K6.out⟩
  | true =>
    have e1 : acc ++ pieceH fr k x.data.toList = acc ++ [13, 10] ++ [32] ++ x.data.toList := by unfold pieceH; rw [hbk, if_pos rfl]; simp
    have e2 : (lineH fr k x.data.toList : Int) = 1 + (x.size : Int) := by unfold lineH; rw [hbk, if_pos rfl, hxl]; push_cast; omega
    rw [e1, show ((lineH fr k x.data.toList : Nat) : Int) = _ from e2]
    unfold brkH at hbk
    simp only [Bool.and_eq_true, Bool.not_eq_true', decide_eq_true_eq] at hbk
    obtain ⟨rfl, hx0, h78'⟩ := hbk
    have hem : x.toList.isEmpty = false := by rw [he0, decide_eq_false hx0]
    have h78 : decide ((78 : Int) < (k : Int) + (1 + (x.size : Int))) = true := decide_eq_true (by rw [hxl] at h78'; omega)
    have hb1 := bwrite_k B b (Lib.byteCells acc) ⟨#[13, 10]⟩ w h (by rw [Lib.byteCells_length]; show _ + 2 ≤ _; omega) hBw
    rw [show Lib.byteCells acc ++ Lib.strCells ⟨#[13, 10]⟩ = Lib.byteCells (acc ++ [13, 10]) by rw [Lib.byteCells_append]; rfl] at hb1
    clear e1 e2 hC hD hE hxl he0 hx0 h78'
    go_enter Tryd.func47, Tryd.ntmps47
    go_wp2_with (go_at_call 23; refine hb1.mono ?_)
    rintro e w2 ⟨rfl, hbd2, hbe2, hoth2, hsz2⟩
    have hC2 := kept_box hoth2 (by decide) nC HC.out
    have hD2 := kept_box hoth2 (by decide) nD HD.out
    have hE2 := kept_box hoth2 (by decide) nE HE.out
    have c21 := hD2.cell
    have f21 := hD2.frozen
    have hC3 : Boxed (w2.setCell ⟨D, 0, none⟩ (.int .i64 0)) C 45 (.pointer (some ⟨b, 0, none⟩)) := hC2.other nCD _
    have hE3 : Boxed (w2.setCell ⟨D, 0, none⟩ (.int .i64 0)) E 4 (.bool false) := hE2.other nDE _
    have hD3 : Boxed (w2.setCell ⟨D, 0, none⟩ (.int .i64 0)) D 3 (.int .i64 0) := hD2.set _
    have c31 := hC3.cell
    have c32 := hD3.cell
    have hbd3 := builder_box (t := 3) (by decide) (.int .i64 0) hbd2 ⟨_, hD2⟩
    have K2 := Lib.hid ((K0.out.trans (KeptH.of (N := E) (c := D) hoth2 hsz2)).set (.int .i64 0))
    have L2 := Lib.hid ((L0.out.trans hbe2).setCell (p := ⟨D, 0, none⟩) hBD (.int .i64 0))
    have hs3 : B ≤ (w2.setCell ⟨D, 0, none⟩ (.int .i64 0)).heap.size := by
      rw [show (w2.setCell ⟨D, 0, none⟩ (.int .i64 0)).heap.size = w2.heap.size by simp [World.setCell]]
      omega
    have HC3 := Lib.hid hC3
    have HD3 := Lib.hid hD3
    have HE3 := Lib.hid hE3
    clear hb1 hbd2 hbe2 hoth2 hC2 hD2 hE2
    have hb2 := bwrite_k B b (Lib.byteCells (acc ++ [13, 10])) ⟨#[32]⟩ (w2.setCell ⟨D, 0, none⟩ (.int .i64 0)) hbd3 (by rw [Lib.byteCells_length]; show _ + 1 ≤ _; simp only [List.length_append]; show _ + 2 + _ ≤ _; omega) hs3
    rw [show Lib.byteCells (acc ++ [13, 10]) ++ Lib.strCells ⟨#[32]⟩ = Lib.byteCells (acc ++ [13, 10] ++ [32]) by rw [Lib.byteCells_append (acc ++ [13, 10])]; rfl] at hb2
    go_wp2_with (go_at_call 23; refine hb2.mono ?_)
    rintro e w4 ⟨rfl, hbd4, hbe4, hoth4, hsz4⟩
    have hC4 := kept_box hoth4 (by decide) nC HC3.out
    have hD4 := kept_box hoth4 (by decide) nD HD3.out
    have hE4 := kept_box hoth4 (by decide) nE HE3.out
    have c41 := hC4.cell
    have c42 := hD4.cell
    have c43 := hE4.cell
    have K4 := Lib.hid (K2.out.trans (KeptH.of (N := E) (c := D) hoth4 hsz4))
    have L4 := Lib.hid (L2.out.trans hbe4)
    have hb3 := bwrite_k B b (Lib.byteCells (acc ++ [13, 10] ++ [32])) x w4 hbd4 (by rw [Lib.byteCells_length, List.length_append]; show _ + 1 + _ ≤ _; simp only [List.length_append]; show _ + 2 + _ ≤ _; omega) (by omega)
    rw [show Lib.byteCells (acc ++ [13, 10] ++ [32]) ++ Lib.strCells x = Lib.byteCells (acc ++ [13, 10] ++ [32] ++ x.data.toList) by rw [Lib.byteCells_append (acc ++ [13, 10] ++ [32])]; rfl] at hb3
    have HC4 := Lib.hid hC4
    have HD4 := Lib.hid hD4
    have HE4 := Lib.hid hE4
    clear hb2 hbd4 hbe4 hoth4 hC4 hD4 hE4
    go_wp2_with (go_at_call 23; refine hb3.mono ?_)
    rintro e w6 ⟨rfl, hbd6, hbe6, hoth6, hsz6⟩
    have hC6 := kept_box hoth6 (by decide) nC HC4.out
    have hD6 := kept_box hoth6 (by decide) nD HD4.out
    have hE6 := kept_box hoth6 (by decide) nE HE4.out
    have c61 := hD6.cell
    have c62 := hE6.cell
    have f61 := hD6.frozen
    have f62 := hE6.frozen
    have hE7 : Boxed (w6.setCell ⟨D, 0, none⟩ (.int .i64 (1 + (x.size : Int)))) E 4 (.bool false) := hE6.other nDE _
    have f71 := hE7.frozen
    have c71 := hE7.cell
    have hD8 : Boxed ((w6.setCell ⟨D, 0, none⟩ (.int .i64 (1 + (x.size : Int)))).setCell ⟨E, 0, none⟩ (.bool false)) D 3 (.int .i64 (1 + (x.size : Int))) := (hD6.set _).other (fun e => nDE e.symm) _
    have c81 := hD8.cell
    have K6 := Lib.hid (((K4.out.trans (KeptH.of (N := E) (c := D) hoth6 hsz6)).set (.int .i64 (1 + (x.size : Int)))).setN (.bool false))
    have L6 := Lib.hid (((L4.out.trans hbe6).setCell (p := ⟨D, 0, none⟩) hBD (.int .i64 (1 + (x.size : Int)))).setCell (p := ⟨E, 0, none⟩) hBE (.bool false))
    have B6 := Lib.hid (builder_box (t := 4) (by decide) (.bool false) (builder_box (t := 3) (by decide) (.int .i64 (1 + (x.size : Int))) hbd6 ⟨_, hD6⟩) ⟨_, hE7⟩)
    have C6 := Lib.hid ((hC6.other nCD (.int .i64 (1 + (x.size : Int)))).other nCE (.bool false))
    have E8 := Lib.hid (hE7.set (.bool false))
    have D8 := Lib.hid hD8
    clear hb3 hbd6 hbe6 hoth6 hC6 hD6 hE6 hE7 hD8 hsz4 hsz6
    go_wp2
    go_ret
    exact ⟨rfl, B6.out, E8.out, D8.out, C6.out, L6.out, K6.out⟩
end Go.Proofs.YtneihcdeflfahaaDoor
