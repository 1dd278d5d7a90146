/-
  Texts of this proof, put together: HdC, H10F.
-/
import Derived.Test.YtidlpdiephlkhaaGreatDoorZ13
import Derived.Test.YtidlpdiephlkhaaGreatDoorZ04
import Derived.Test.YtidlpdiephlkhaaGreatDoorZ06
namespace Go.Proofs.YtidlpdiephlkhaaGreatDoor
open Go.RowKit

/-- All blocks but N, b, c and the bytes' own lie as they lay. -/
def KeptH (N b c : Nat) (w w' : World) : Prop := w.heap.size ≤ w'.heap.size ∧ ∀ k o, w.heap[k]? = some o → k ≠ N → k ≠ b → k ≠ c → (∀ x fz, o ≠ .cells x 5 fz) → w'.heap[k]? = some o
theorem KeptH.refl (N b c : Nat) (w : World) : KeptH N b c w w := ⟨Nat.le_refl _, fun _ _ h _ _ _ _ => h⟩
theorem KeptH.trans {N b c : Nat} {u v w : World} (h : KeptH N b c u v) (k : KeptH N b c v w) : KeptH N b c u w := ⟨Nat.le_trans h.1 k.1, fun i o hi hN hb hc ho => k.2 i o (h.2 i o hi hN hb hc ho) hN hb hc ho⟩
theorem KeptH.of {N b c : Nat} {w w' : World} (h : Lib.OthersKept 5 (some b) w w') (hz : w.heap.size ≤ w'.heap.size) : KeptH N b c w w' := ⟨hz, fun k o hk _ hb _ ho => h k o hk (by simpa using hb) ho⟩
theorem KeptH.set {N b c : Nat} {u w : World} (h : KeptH N b c u w) (v : Value) : KeptH N b c u (w.setCell ⟨c, 0, none⟩ v) := ⟨by simpa [World.setCell] using h.1, fun k o hk hN hb hc ho =>
  (Below.heap_setCell w ⟨c, 0, none⟩ v k hc).trans (h.2 k o hk hN hb hc ho)⟩
theorem KeptH.setN {N b c : Nat} {u w : World} (h : KeptH N b c u w) (v : Value) : KeptH N b c u (w.setCell ⟨N, 0, none⟩ v) := ⟨by simpa [World.setCell] using h.1, fun k o hk hN hb hc ho =>
  (Below.heap_setCell w ⟨N, 0, none⟩ v k hN).trans (h.2 k o hk hN hb hc ho)⟩
theorem KeptH.box {N b c B : Nat} {w w' : World} {t : TypeId} {v : Value} (h : KeptH N b c w w') (ht : t ≠ 5) (hN : B ≠ N) (hb : B ≠ b) (hc : B ≠ c) (hx : Boxed w B t v) : Boxed w' B t v :=
  h.2 B _ hx hN hb hc (fun x fz e => by cases e; exact ht rfl)
/-- Unlike types lie in unlike blocks. -/
theorem box_neH {w : World} {C D : Nat} {s t : TypeId} {u v : Value} (hC : Boxed w C s u) (hD : Boxed w D t v) (h : s ≠ t) : C ≠ D := fun e => by
  have hC : w.heap[C]? = some (.cells #[u] s (0, 0)) := hC
  have hD : w.heap[D]? = some (.cells #[v] t (0, 0)) := hD
  rw [e, hD] at hC
  simp at hC
  exact h hC.2.symm

/-- Does a word begin a line anew? -/
def brkH (fr : Bool) (k : Nat) (x : TextH) : Bool := !fr && (decide (x ≠ []) && decide (78 < k + (1 + x.length)))
def pieceH (fr : Bool) (k : Nat) (x : TextH) : TextH := (if brkH fr k x = true then [13, 10] else []) ++ 32 :: x
def lineH (fr : Bool) (k : Nat) (x : TextH) : Nat := (if brkH fr k x = true then 0 else k) + (1 + x.length)

set_option maxRecDepth 100000 in
set_option maxHeartbeats 4000000 in
theorem hput_any (B b C D E : Nat) (acc : TextH) (k : Nat) (fr : Bool) (x : ByteArray) (w : World) (h : Lib.BuilderAt 69 5 B b (.pointer (some ⟨b, 0, none⟩)) (Lib.byteCells acc) w)
    (hC : Boxed w C 66 (.pointer (some ⟨b, 0, none⟩))) (hD : Boxed w D 3 (.int .i64 k)) (hE : Boxed w E 4 (.bool fr)) (hBD : B ≤ D) (hBE : B ≤ E) (hlen : acc.length + x.size + 3 ≤ 1000000000) (hBw : B ≤ w.heap.size) (hk : k ≤ 1000000) (hx : x.size ≤ 10000000) :
    Calls Tryz.prog 110 #[.string x, .pointer (some ⟨E, 0, none⟩), .pointer (some ⟨D, 0, none⟩), .pointer (some ⟨C, 0, none⟩)] w fun e w' => e = .returned (.bool (decide ((lineH fr k x.data.toList : Int) ≤ 998))) ∧
      (Lib.BuilderAt 69 5 B b (.pointer (some ⟨b, 0, none⟩)) (Lib.byteCells (acc ++ pieceH fr k x.data.toList)) w' ∧ Boxed w' E 4 (.bool false) ∧ Boxed w' D 3 (.int .i64 (lineH fr k x.data.toList : Nat)) ∧ Boxed w' C 66 (.pointer (some ⟨b, 0, none⟩)) ∧ Below B w w' ∧ KeptH E b D w w') := by
  have hxl : x.data.toList.length = x.size := rfl
  have nC := builder_ne h hC
  have nD := builder_ne h hD
  have nE := builder_ne h hE
  have nCD := box_neH hC hD (by decide)
  have nCE := box_neH hC hE (by decide)
  have nDE := box_neH hE hD (by decide)
  have c1 := hC.cell
  have c2 := hD.cell
  have c3 := hE.cell
  have f2 := hD.frozen
  have HC := Lib.hid hC
  have HD := Lib.hid hD
  have HE := Lib.hid hE
  have K0 := Lib.hid (KeptH.refl E b D w)
  have L0 := Lib.hid (Below.refl B w)
  have he0 : x.toList.isEmpty = decide (x.data.toList = []) := by
    rw [Lib.toList_data]
    cases x.data.toList <;> rfl
  cases hbk : brkH fr k x.data.toList with
  | false =>
    have e1 : acc ++ pieceH fr k x.data.toList = acc ++ [32] ++ x.data.toList := by unfold pieceH; rw [hbk, if_neg (by simp)]; simp
    have e2 : (lineH fr k x.data.toList : Int) = (k : Int) + (1 + (x.size : Int)) := by unfold lineH; rw [hbk, if_neg (by simp), hxl]; push_cast; rfl
    rw [e1, show ((lineH fr k x.data.toList : Nat) : Int) = _ from e2]
    unfold brkH at hbk
    cases fr with
    | true =>
      clear e1 e2 hbk hC hD hE hxl he0
      go_enter Tryz.func110, Tryz.ntmps110
      have hb2 := bwrite_k B b (Lib.byteCells (acc)) ⟨#[32]⟩ w h (by rw [Lib.byteCells_length]; show _ + 1 ≤ _; omega) hBw
      rw [show Lib.byteCells (acc) ++ Lib.strCells ⟨#[32]⟩ = Lib.byteCells (acc ++ [32]) by rw [Lib.byteCells_append (acc)]; rfl] at hb2
      go_wp2_with (go_at_call 47; refine hb2.mono ?_)
      rintro e w4 ⟨rfl, hbd4, hbe4, hoth4, hsz4⟩
      have hC4 := kept_box hoth4 (by decide) nC HC.out
      have hD4 := kept_box hoth4 (by decide) nD HD.out
      have hE4 := kept_box hoth4 (by decide) nE HE.out
      have c41 := hC4.cell
      have c42 := hD4.cell
      have c43 := hE4.cell
      have K4 := Lib.hid (K0.out.trans (KeptH.of (N := E) (c := D) hoth4 hsz4))
      have L4 := Lib.hid (L0.out.trans hbe4)
      have hb3 := bwrite_k B b (Lib.byteCells (acc ++ [32])) x w4 hbd4 (by rw [Lib.byteCells_length, List.length_append]; show _ + 1 + _ ≤ _; omega) (by omega)
      rw [show Lib.byteCells (acc ++ [32]) ++ Lib.strCells x = Lib.byteCells (acc ++ [32] ++ x.data.toList) by rw [Lib.byteCells_append (acc ++ [32])]; rfl] at hb3
      have HC4 := Lib.hid hC4
      have HD4 := Lib.hid hD4
      have HE4 := Lib.hid hE4
      clear hb2 hbd4 hbe4 hoth4 hC4 hD4 hE4
      go_wp2_with (go_at_call 47; refine hb3.mono ?_)
      rintro e w6 ⟨rfl, hbd6, hbe6, hoth6, hsz6⟩
      have hC6 := kept_box hoth6 (by decide) nC HC4.out
      have hD6 := kept_box hoth6 (by decide) nD HD4.out
      have hE6 := kept_box hoth6 (by decide) nE HE4.out
      have c61 := hD6.cell
      have c62 := hE6.cell
      have f61 := hD6.frozen
      have f62 := hE6.frozen
      have hE7 : Boxed (w6.setCell ⟨D, 0, none⟩ (.int .i64 ((k : Int) + (1 + (x.size : Int))))) E 4 (.bool true) := hE6.other nDE _
      have f71 := hE7.frozen
      have c71 := hE7.cell
      have hD8 : Boxed ((w6.setCell ⟨D, 0, none⟩ (.int .i64 ((k : Int) + (1 + (x.size : Int))))).setCell ⟨E, 0, none⟩ (.bool false)) D 3 (.int .i64 ((k : Int) + (1 + (x.size : Int)))) := (hD6.set _).other (fun e => nDE e.symm) _
      have c81 := hD8.cell
      have K6 := Lib.hid (((K4.out.trans (KeptH.of (N := E) (c := D) hoth6 hsz6)).set (.int .i64 ((k : Int) + (1 + (x.size : Int))))).setN (.bool false))
      have L6 := Lib.hid (((L4.out.trans hbe6).setCell (p := ⟨D, 0, none⟩) hBD (.int .i64 ((k : Int) + (1 + (x.size : Int))))).setCell (p := ⟨E, 0, none⟩) hBE (.bool false))
      have B6 := Lib.hid (builder_box (t := 4) (by decide) (.bool false) (builder_box (t := 3) (by decide) (.int .i64 ((k : Int) + (1 + (x.size : Int)))) hbd6 ⟨_, hD6⟩) ⟨_, hE7⟩)
      have C6 := Lib.hid ((hC6.other nCD (.int .i64 ((k : Int) + (1 + (x.size : Int))))).other nCE (.bool false))
      have E8 := Lib.hid (hE7.set (.bool false))
      have D8 := Lib.hid hD8
      clear hb3 hbd6 hbe6 hoth6 hC6 hD6 hE6 hE7 hD8 hsz4 hsz6
      go_wp2
      go_ret
      exact ⟨rfl, B6.out, E8.out, D8.out, C6.out, L6.out, K6.out⟩
    | false =>
      by_cases hx0 : x.data.toList = []
      · have hem : x.toList.isEmpty = true := by rw [he0, decide_eq_true hx0]
        clear e1 e2 hbk hC hD hE hxl he0 hx0
        go_enter Tryz.func110, Tryz.ntmps110
        have hb2 := bwrite_k B b (Lib.byteCells (acc)) ⟨#[32]⟩ w h (by rw [Lib.byteCells_length]; show _ + 1 ≤ _; omega) hBw
        rw [show Lib.byteCells (acc) ++ Lib.strCells ⟨#[32]⟩ = Lib.byteCells (acc ++ [32]) by rw [Lib.byteCells_append (acc)]; rfl] at hb2
        go_wp2_with (go_at_call 47; refine hb2.mono ?_)
        rintro e w4 ⟨rfl, hbd4, hbe4, hoth4, hsz4⟩
        have hC4 := kept_box hoth4 (by decide) nC HC.out
        have hD4 := kept_box hoth4 (by decide) nD HD.out
        have hE4 := kept_box hoth4 (by decide) nE HE.out
        have c41 := hC4.cell
        have c42 := hD4.cell
        have c43 := hE4.cell
        have K4 := Lib.hid (K0.out.trans (KeptH.of (N := E) (c := D) hoth4 hsz4))
        have L4 := Lib.hid (L0.out.trans hbe4)
        have hb3 := bwrite_k B b (Lib.byteCells (acc ++ [32])) x w4 hbd4 (by rw [Lib.byteCells_length, List.length_append]; show _ + 1 + _ ≤ _; omega) (by omega)
        rw [show Lib.byteCells (acc ++ [32]) ++ Lib.strCells x = Lib.byteCells (acc ++ [32] ++ x.data.toList) by rw [Lib.byteCells_append (acc ++ [32])]; rfl] at hb3
        have HC4 := Lib.hid hC4
        have HD4 := Lib.hid hD4
        have HE4 := Lib.hid hE4
        clear hb2 hbd4 hbe4 hoth4 hC4 hD4 hE4
        go_wp2_with (go_at_call 47; refine hb3.mono ?_)
        rintro e w6 ⟨rfl, hbd6, hbe6, hoth6, hsz6⟩
        have hC6 := kept_box hoth6 (by decide) nC HC4.out
        have hD6 := kept_box hoth6 (by decide) nD HD4.out
        have hE6 := kept_box hoth6 (by decide) nE HE4.out
        have c61 := hD6.cell
        have c62 := hE6.cell
        have f61 := hD6.frozen
        have f62 := hE6.frozen
        have hE7 : Boxed (w6.setCell ⟨D, 0, none⟩ (.int .i64 ((k : Int) + (1 + (x.size : Int))))) E 4 (.bool false) := hE6.other nDE _
        have f71 := hE7.frozen
        have c71 := hE7.cell
        have hD8 : Boxed ((w6.setCell ⟨D, 0, none⟩ (.int .i64 ((k : Int) + (1 + (x.size : Int))))).setCell ⟨E, 0, none⟩ (.bool false)) D 3 (.int .i64 ((k : Int) + (1 + (x.size : Int)))) := (hD6.set _).other (fun e => nDE e.symm) _
        have c81 := hD8.cell
        have K6 := Lib.hid (((K4.out.trans (KeptH.of (N := E) (c := D) hoth6 hsz6)).set (.int .i64 ((k : Int) + (1 + (x.size : Int))))).setN (.bool false))
        have L6 := Lib.hid (((L4.out.trans hbe6).setCell (p := ⟨D, 0, none⟩) hBD (.int .i64 ((k : Int) + (1 + (x.size : Int))))).setCell (p := ⟨E, 0, none⟩) hBE (.bool false))
        have B6 := Lib.hid (builder_box (t := 4) (by decide) (.bool false) (builder_box (t := 3) (by decide) (.int .i64 ((k : Int) + (1 + (x.size : Int)))) hbd6 ⟨_, hD6⟩) ⟨_, hE7⟩)
        have C6 := Lib.hid ((hC6.other nCD (.int .i64 ((k : Int) + (1 + (x.size : Int))))).other nCE (.bool false))
        have E8 := Lib.hid (hE7.set (.bool false))
        have D8 := Lib.hid hD8
        clear hb3 hbd6 hbe6 hoth6 hC6 hD6 hE6 hE7 hD8 hsz4 hsz6
        go_wp2
        go_ret
        exact ⟨rfl, B6.out, E8.out, D8.out, C6.out, L6.out, K6.out⟩
      · have hem : x.toList.isEmpty = false := by rw [he0, decide_eq_false hx0]
        have h78 : decide ((78 : Int) < (k : Int) + (1 + (x.size : Int))) = false := by
          rw [decide_eq_true hx0, hxl] at hbk
          have : ¬ 78 < k + (1 + x.size) := by simpa using hbk
          exact decide_eq_false (by omega)
        clear e1 e2 hbk hC hD hE hxl he0 hx0
        go_enter Tryz.func110, Tryz.ntmps110
        have hb2 := bwrite_k B b (Lib.byteCells (acc)) ⟨#[32]⟩ w h (by rw [Lib.byteCells_length]; show _ + 1 ≤ _; omega) hBw
        rw [show Lib.byteCells (acc) ++ Lib.strCells ⟨#[32]⟩ = Lib.byteCells (acc ++ [32]) by rw [Lib.byteCells_append (acc)]; rfl] at hb2
        go_wp2_with (go_at_call 47; refine hb2.mono ?_)
        rintro e w4 ⟨rfl, hbd4, hbe4, hoth4, hsz4⟩
        have hC4 := kept_box hoth4 (by decide) nC HC.out
        have hD4 := kept_box hoth4 (by decide) nD HD.out
        have hE4 := kept_box hoth4 (by decide) nE HE.out
        have c41 := hC4.cell
        have c42 := hD4.cell
        have c43 := hE4.cell
        have K4 := Lib.hid (K0.out.trans (KeptH.of (N := E) (c := D) hoth4 hsz4))
        have L4 := Lib.hid (L0.out.trans hbe4)
        have hb3 := bwrite_k B b (Lib.byteCells (acc ++ [32])) x w4 hbd4 (by rw [Lib.byteCells_length, List.length_append]; show _ + 1 + _ ≤ _; omega) (by omega)
        rw [show Lib.byteCells (acc ++ [32]) ++ Lib.strCells x = Lib.byteCells (acc ++ [32] ++ x.data.toList) by rw [Lib.byteCells_append (acc ++ [32])]; rfl] at hb3
        have HC4 := Lib.hid hC4
        have HD4 := Lib.hid hD4
        have HE4 := Lib.hid hE4
        clear hb2 hbd4 hbe4 hoth4 hC4 hD4 hE4
        go_wp2_with (go_at_call 47; refine hb3.mono ?_)
        rintro e w6 ⟨rfl, hbd6, hbe6, hoth6, hsz6⟩
        have hC6 := kept_box hoth6 (by decide) nC HC4.out
        have hD6 := kept_box hoth6 (by decide) nD HD4.out
        have hE6 := kept_box hoth6 (by decide) nE HE4.out
        have c61 := hD6.cell
        have c62 := hE6.cell
        have f61 := hD6.frozen
        have f62 := hE6.frozen
        have hE7 : Boxed (w6.setCell ⟨D, 0, none⟩ (.int .i64 ((k : Int) + (1 + (x.size : Int))))) E 4 (.bool false) := hE6.other nDE _
        have f71 := hE7.frozen
        have c71 := hE7.cell
        have hD8 : Boxed ((w6.setCell ⟨D, 0, none⟩ (.int .i64 ((k : Int) + (1 + (x.size : Int))))).setCell ⟨E, 0, none⟩ (.bool false)) D 3 (.int .i64 ((k : Int) + (1 + (x.size : Int)))) := (hD6.set _).other (fun e => nDE e.symm) _
        have c81 := hD8.cell
        have K6 := Lib.hid (((K4.out.trans (KeptH.of (N := E) (c := D) hoth6 hsz6)).set (.int .i64 ((k : Int) + (1 + (x.size : Int))))).setN (.bool false))
        have L6 := Lib.hid (((L4.out.trans hbe6).setCell (p := ⟨D, 0, none⟩) hBD (.int .i64 ((k : Int) + (1 + (x.size : Int))))).setCell (p := ⟨E, 0, none⟩) hBE (.bool false))
        have B6 := Lib.hid (builder_box (t := 4) (by decide) (.bool false) (builder_box (t := 3) (by decide) (.int .i64 ((k : Int) + (1 + (x.size : Int)))) hbd6 ⟨_, hD6⟩) ⟨_, hE7⟩)
        have C6 := Lib.hid ((hC6.other nCD (.int .i64 ((k : Int) + (1 + (x.size : Int))))).other nCE (.bool false))
        have E8 := Lib.hid (hE7.set (.bool false))
        have D8 := Lib.hid hD8
        clear hb3 hbd6 hbe6 hoth6 hC6 hD6 hE6 hE7 hD8 hsz4 hsz6
        go_wp2
        go_ret
        exact ⟨rfl, B6.out, E8.out, D8.out, C6.out, L6.out, K6.out⟩
  | true =>
    have e1 : acc ++ pieceH fr k x.data.toList = acc ++ [13, 10] ++ [32] ++ x.data.toList := by unfold pieceH; rw [hbk, if_pos rfl]; simp
    have e2 : (lineH fr k x.data.toList : Int) = 1 + (x.size : Int) := by unfold lineH; rw [hbk, if_pos rfl, hxl]; push_cast; omega
    rw [e1, show ((lineH fr k x.data.toList : Nat) : Int) = _ from e2]
    unfold brkH at hbk
    simp only [Bool.and_eq_true, Bool.not_eq_true', decide_eq_true_eq] at hbk
    obtain ⟨rfl, hx0, h78'⟩ := hbk
    have hem : x.toList.isEmpty = false := by rw [he0, decide_eq_false hx0]
    have h78 : decide ((78 : Int) < (k : Int) + (1 + (x.size : Int))) = true := decide_eq_true (by rw [hxl] at h78'; omega)
    have hb1 := bwrite_k B b (Lib.byteCells acc) ⟨#[13, 10]⟩ w h (by rw [Lib.byteCells_length]; show _ + 2 ≤ _; omega) hBw
    rw [show Lib.byteCells acc ++ Lib.strCells ⟨#[13, 10]⟩ = Lib.byteCells (acc ++ [13, 10]) by rw [Lib.byteCells_append]; rfl] at hb1
    clear e1 e2 hC hD hE hxl he0 hx0 h78'
    go_enter Tryz.func110, Tryz.ntmps110
    go_wp2_with (go_at_call 47; refine hb1.mono ?_)
    rintro e w2 ⟨rfl, hbd2, hbe2, hoth2, hsz2⟩
    have hC2 := kept_box hoth2 (by decide) nC HC.out
    have hD2 := kept_box hoth2 (by decide) nD HD.out
    have hE2 := kept_box hoth2 (by decide) nE HE.out
    have c21 := hD2.cell
    have f21 := hD2.frozen
    have hC3 : Boxed (w2.setCell ⟨D, 0, none⟩ (.int .i64 0)) C 66 (.pointer (some ⟨b, 0, none⟩)) := hC2.other nCD _
    have hE3 : Boxed (w2.setCell ⟨D, 0, none⟩ (.int .i64 0)) E 4 (.bool false) := hE2.other nDE _
    have hD3 : Boxed (w2.setCell ⟨D, 0, none⟩ (.int .i64 0)) D 3 (.int .i64 0) := hD2.set _
    have c31 := hC3.cell
    have c32 := hD3.cell
    have hbd3 := builder_box (t := 3) (by decide) (.int .i64 0) hbd2 ⟨_, hD2⟩
    have K2 := Lib.hid ((K0.out.trans (KeptH.of (N := E) (c := D) hoth2 hsz2)).set (.int .i64 0))
    have L2 := Lib.hid ((L0.out.trans hbe2).setCell (p := ⟨D, 0, none⟩) hBD (.int .i64 0))
    have hs3 : B ≤ (w2.setCell ⟨D, 0, none⟩ (.int .i64 0)).heap.size := by
      rw [show (w2.setCell ⟨D, 0, none⟩ (.int .i64 0)).heap.size = w2.heap.size by simp [World.setCell]]
      omega
    have HC3 := Lib.hid hC3
    have HD3 := Lib.hid hD3
    have HE3 := Lib.hid hE3
    clear hb1 hbd2 hbe2 hoth2 hC2 hD2 hE2
    have hb2 := bwrite_k B b (Lib.byteCells (acc ++ [13, 10])) ⟨#[32]⟩ (w2.setCell ⟨D, 0, none⟩ (.int .i64 0)) hbd3 (by rw [Lib.byteCells_length]; show _ + 1 ≤ _; simp only [List.length_append]; show _ + 2 + _ ≤ _; omega) hs3
    rw [show Lib.byteCells (acc ++ [13, 10]) ++ Lib.strCells ⟨#[32]⟩ = Lib.byteCells (acc ++ [13, 10] ++ [32]) by rw [Lib.byteCells_append (acc ++ [13, 10])]; rfl] at hb2
    go_wp2_with (go_at_call 47; refine hb2.mono ?_)
    rintro e w4 ⟨rfl, hbd4, hbe4, hoth4, hsz4⟩
    have hC4 := kept_box hoth4 (by decide) nC HC3.out
    have hD4 := kept_box hoth4 (by decide) nD HD3.out
    have hE4 := kept_box hoth4 (by decide) nE HE3.out
    have c41 := hC4.cell
    have c42 := hD4.cell
    have c43 := hE4.cell
    have K4 := Lib.hid (K2.out.trans (KeptH.of (N := E) (c := D) hoth4 hsz4))
    have L4 := Lib.hid (L2.out.trans hbe4)
    have hb3 := bwrite_k B b (Lib.byteCells (acc ++ [13, 10] ++ [32])) x w4 hbd4 (by rw [Lib.byteCells_length, List.length_append]; show _ + 1 + _ ≤ _; simp only [List.length_append]; show _ + 2 + _ ≤ _; omega) (by omega)
    rw [show Lib.byteCells (acc ++ [13, 10] ++ [32]) ++ Lib.strCells x = Lib.byteCells (acc ++ [13, 10] ++ [32] ++ x.data.toList) by rw [Lib.byteCells_append (acc ++ [13, 10] ++ [32])]; rfl] at hb3
    have HC4 := Lib.hid hC4
    have HD4 := Lib.hid hD4
    have HE4 := Lib.hid hE4
    clear hb2 hbd4 hbe4 hoth4 hC4 hD4 hE4
    go_wp2_with (go_at_call 47; refine hb3.mono ?_)
    rintro e w6 ⟨rfl, hbd6, hbe6, hoth6, hsz6⟩
    have hC6 := kept_box hoth6 (by decide) nC HC4.out
    have hD6 := kept_box hoth6 (by decide) nD HD4.out
    have hE6 := kept_box hoth6 (by decide) nE HE4.out
    have c61 := hD6.cell
    have c62 := hE6.cell
    have f61 := hD6.frozen
    have f62 := hE6.frozen
    have hE7 : Boxed (w6.setCell ⟨D, 0, none⟩ (.int .i64 (1 + (x.size : Int)))) E 4 (.bool false) := hE6.other nDE _
    have f71 := hE7.frozen
    have c71 := hE7.cell
    have hD8 : Boxed ((w6.setCell ⟨D, 0, none⟩ (.int .i64 (1 + (x.size : Int)))).setCell ⟨E, 0, none⟩ (.bool false)) D 3 (.int .i64 (1 + (x.size : Int))) := (hD6.set _).other (fun e => nDE e.symm) _
    have c81 := hD8.cell
    have K6 := Lib.hid (((K4.out.trans (KeptH.of (N := E) (c := D) hoth6 hsz6)).set (.int .i64 (1 + (x.size : Int)))).setN (.bool false))
    have L6 := Lib.hid (((L4.out.trans hbe6).setCell (p := ⟨D, 0, none⟩) hBD (.int .i64 (1 + (x.size : Int)))).setCell (p := ⟨E, 0, none⟩) hBE (.bool false))
    have B6 := Lib.hid (builder_box (t := 4) (by decide) (.bool false) (builder_box (t := 3) (by decide) (.int .i64 (1 + (x.size : Int))) hbd6 ⟨_, hD6⟩) ⟨_, hE7⟩)
    have C6 := Lib.hid ((hC6.other nCD (.int .i64 (1 + (x.size : Int)))).other nCE (.bool false))
    have E8 := Lib.hid (hE7.set (.bool false))
    have D8 := Lib.hid hD8
    clear hb3 hbd6 hbe6 hoth6 hC6 hD6 hE6 hE7 hD8 hsz4 hsz6
    go_wp2
    go_ret
    exact ⟨rfl, B6.out, E8.out, D8.out, C6.out, L6.out, K6.out⟩
end Go.Proofs.YtidlpdiephlkhaaGreatDoor
namespace Go.Proofs.YtidlpdiephlkhaaGreatDoor

/-- One word more: what was laid, how long the line is, whether none was laid yet, whether no line is too long. -/
def layR10 (s : TextH × Nat × Bool × Bool) (w : TextH) : TextH × Nat × Bool × Bool :=
  (s.1 ++ pieceH s.2.2.1 s.2.1 w, lineH s.2.2.1 s.2.1 w, false, s.2.2.2 && decide (lineH s.2.2.1 s.2.1 w ≤ 998))
def soFarH (acc : TextH) (k : Nat) (ws : List TextH) : TextH × Nat × Bool × Bool := ws.foldl layR10 (acc, k, true, true)
theorem soFarH_snoc (acc : TextH) (k : Nat) (ws : List TextH) (w : TextH) : soFarH acc k (ws ++ [w]) = layR10 (soFarH acc k ws) w := by
  unfold soFarH
  rw [List.foldl_append]
  rfl
theorem dead_runH : ∀ (ws : List TextH) (s : TextH × Nat × Bool × Bool), s.2.2.2 = false → (ws.foldl layR10 s).2.2.2 = false
  | [], s, h => h
  | w :: ws, s, h => by
    rw [List.foldl_cons]
    exact dead_runH ws _ (by unfold layR10; rw [h]; rfl)
theorem soFarH_dead (acc : TextH) (k : Nat) (pre rest : List TextH) (h : (soFarH acc k pre).2.2.2 = false) : (soFarH acc k (pre ++ rest)).2.2.2 = false := by
  unfold soFarH at h ⊢
  rw [List.foldl_append]
  exact dead_runH rest _ h
theorem run_lineH : ∀ (ws : List TextH) (s : TextH × Nat × Bool × Bool), s.2.1 ≤ 998 → (ws.foldl layR10 s).2.2.2 = true → (ws.foldl layR10 s).2.1 ≤ 998
  | [], s, h, _ => h
  | w :: ws, s, h, ho => by
    rw [List.foldl_cons] at ho ⊢
    refine run_lineH ws _ ?_ ho
    cases hs : (layR10 s w).2.2.2 with
    | false =>
      rw [dead_runH ws _ hs] at ho
      cases ho
    | true =>
      unfold layR10 at hs ⊢
      simp only [Bool.and_eq_true, decide_eq_true_eq] at hs
      exact hs.2
theorem soFarH_line {acc : TextH} {k : Nat} {pre : List TextH} (hk : k ≤ 998) (h : (soFarH acc k pre).2.2.2 = true) : (soFarH acc k pre).2.1 ≤ 998 := run_lineH pre _ hk h
theorem piece_len (fr : Bool) (k : Nat) (w : TextH) : (pieceH fr k w).length ≤ w.length + 3 := by
  unfold pieceH
  split <;> simp
def wtH (ws : List TextH) : Nat := (ws.map fun w => w.length + 3).sum
theorem run_lenH : ∀ (ws : List TextH) (s : TextH × Nat × Bool × Bool), (ws.foldl layR10 s).1.length ≤ s.1.length + wtH ws
  | [], s => by simp [wtH]
  | w :: ws, s => by
    rw [List.foldl_cons]
    have ih := run_lenH ws (layR10 s w)
    have h1 : (layR10 s w).1.length = s.1.length + (pieceH s.2.2.1 s.2.1 w).length := by unfold layR10; rw [List.length_append]
    have h2 := piece_len s.2.2.1 s.2.1 w
    unfold wtH at ih ⊢
    rw [List.map_cons, List.sum_cons]
    omega
theorem wt_append (a b : List TextH) : wtH (a ++ b) = wtH a + wtH b := by
  unfold wtH
  rw [List.map_append, List.sum_append]
theorem split_words : ∀ b : TextH, splitB 32 b = (wordsH b).1 :: (wordsH b).2
  | [] => rfl
  | c :: r => by
    have ih := split_words r
    unfold splitB wordsH
    by_cases h : c = 32
    · rw [if_pos h, if_pos h, ih]
    · rw [if_neg h, if_neg h, ih]
      rfl
theorem wt_split : ∀ b : TextH, wtH (splitB 32 b) ≤ 3 * (b.length + 1)
  | [] => by simp [wtH, splitB]
  | c :: r => by
    have ih := wt_split r
    rw [split_words] at ih ⊢
    unfold wordsH
    unfold wtH at ih ⊢
    split <;> simp only [List.map_cons, List.sum_cons, List.length_cons] at ih ⊢
    · simp only [List.length_nil]
      omega
    · omega
theorem piece_bound {b : TextH} {pre rest : List TextH} {x : TextH} (h : splitB 32 b = pre ++ x :: rest) (acc : TextH) (k : Nat) : x.length ≤ 3 * (b.length + 1) ∧ (soFarH acc k pre).1.length ≤ acc.length + 3 * (b.length + 1) ∧ (soFarH acc k pre).1.length + x.length + 3 ≤ acc.length + 3 * (b.length + 1) := by
  have h1 := wt_split b
  rw [h, wt_append] at h1
  have h2 : wtH (x :: rest) = x.length + 3 + wtH rest := by unfold wtH; rw [List.map_cons, List.sum_cons]
  have h3 := run_lenH pre (acc, k, true, true)
  unfold soFarH
  have h4 : ((acc, k, true, true) : TextH × Nat × Bool × Bool).1.length = acc.length := rfl
  omega
/-- What is laid behind so many bytes of a line; and whether no line is too long. -/
def goH : Nat → List TextH → TextH × Bool
  | _, [] => ([], true)
  | k, w :: ws => if w ≠ [] ∧ 78 < k + 1 + w.length then (13 :: 10 :: 32 :: (w ++ (goH (1 + w.length) ws).1), decide (1 + w.length ≤ 998) && (goH (1 + w.length) ws).2)
    else (32 :: (w ++ (goH (k + 1 + w.length) ws).1), decide (k + 1 + w.length ≤ 998) && (goH (k + 1 + w.length) ws).2)
theorem goH_cons (k : Nat) (w : TextH) (ws : List TextH) : goH k (w :: ws) = if w ≠ [] ∧ 78 < k + 1 + w.length then (13 :: 10 :: 32 :: (w ++ (goH (1 + w.length) ws).1), decide (1 + w.length ≤ 998) && (goH (1 + w.length) ws).2)
    else (32 :: (w ++ (goH (k + 1 + w.length) ws).1), decide (k + 1 + w.length ≤ 998) && (goH (k + 1 + w.length) ws).2) := by
  rw [goH]
theorem brk_iff (k : Nat) (w : TextH) : brkH false k w = true ↔ (w ≠ [] ∧ 78 < k + 1 + w.length) := by
  unfold brkH
  simp only [Bool.not_false, Bool.true_and, Bool.and_eq_true, decide_eq_true_eq, Nat.add_assoc]
theorem run_go : ∀ (ws : List TextH) (acc : TextH) (k : Nat) (o : Bool), (ws.foldl layR10 (acc, k, false, o)).1 = acc ++ (goH k ws).1 ∧ (ws.foldl layR10 (acc, k, false, o)).2.2.2 = (o && (goH k ws).2)
  | [], acc, k, o => by simp [goH]
  | w :: ws, acc, k, o => by
    rw [List.foldl_cons]
    have e : layR10 (acc, k, false, o) w = (acc ++ pieceH false k w, lineH false k w, false, o && decide (lineH false k w ≤ 998)) := rfl
    rw [e]
    obtain ⟨i1, i2⟩ := run_go ws (acc ++ pieceH false k w) (lineH false k w) (o && decide (lineH false k w ≤ 998))
    rw [i1, i2, goH_cons]
    by_cases hb : w ≠ [] ∧ 78 < k + 1 + w.length
    · have h1 : brkH false k w = true := (brk_iff k w).2 hb
      have h2 : lineH false k w = 1 + w.length := by unfold lineH; rw [h1, if_pos rfl]; omega
      rw [if_pos hb, h2]
      unfold pieceH
      rw [h1, if_pos rfl]
      exact ⟨by simp, by rw [Bool.and_assoc]⟩
    · have h1 : brkH false k w = false := by
        cases h : brkH false k w with
        | false => rfl
        | true => exact absurd ((brk_iff k w).1 h) hb
      have h2 : lineH false k w = k + 1 + w.length := by unfold lineH; rw [h1, if_neg (by simp)]; omega
      rw [if_neg hb, h2]
      unfold pieceH
      rw [h1, if_neg (by simp)]
      exact ⟨by simp, by rw [Bool.and_assoc]⟩
theorem go_text : ∀ (ws : List TextH) (k : Nat), (goH k ws).1 = (foldH k ws).1 ++ (foldH k ws).2.flatMap fun l => 13 :: 10 :: l
  | [], k => rfl
  | w :: ws, k => by
    unfold goH foldH
    by_cases hb : w ≠ [] ∧ 78 < k + 1 + w.length
    · rw [if_pos hb, if_pos hb]
      have ih := go_text ws (1 + w.length)
      simp only [List.flatMap_cons, List.nil_append, ih]
      simp
    · rw [if_neg hb, if_neg hb]
      have ih := go_text ws (k + 1 + w.length)
      simp only [ih]
      simp
theorem long_cons (l : TextH) (ls : List TextH) : longH (l :: ls) = (decide (998 < l.length) || longH ls) := by
  unfold longH
  rw [List.any_cons]
theorem go_ok : ∀ (ws : List TextH) (k : Nat), k ≤ 998 → (goH k ws).2 = !(decide (998 < k + (foldH k ws).1.length) || longH (foldH k ws).2)
  | [], k, h => by
    unfold goH foldH longH
    simp
    omega
  | w :: ws, k, h => by
    unfold goH foldH
    by_cases hb : w ≠ [] ∧ 78 < k + 1 + w.length
    · rw [if_pos hb, if_pos hb]
      simp only [long_cons, List.length_cons, List.length_append, List.length_nil]
      rw [decide_eq_false (p := 998 < k + 0) (by omega), Bool.false_or]
      by_cases h1 : 1 + w.length ≤ 998
      · rw [go_ok ws _ h1, decide_eq_true h1, Bool.true_and]
        congr 2
        rw [decide_eq_decide]
        omega
      · rw [decide_eq_false h1, Bool.false_and, decide_eq_true (p := 998 < w.length + (foldH (1 + w.length) ws).1.length + 1) (by omega)]
        rfl
    · rw [if_neg hb, if_neg hb]
      simp only [List.length_cons, List.length_append]
      by_cases h1 : k + 1 + w.length ≤ 998
      · rw [go_ok ws _ h1, decide_eq_true h1, Bool.true_and]
        congr 2
        rw [decide_eq_decide]
        omega
      · rw [decide_eq_false h1, Bool.false_and, decide_eq_true (p := 998 < k + (w.length + (foldH (k + 1 + w.length) ws).1.length + 1)) (by omega)]
        rfl
theorem end_cons (l : TextH) (ls : List TextH) : endH (l :: ls) = l ++ [13, 10] ++ endH ls := by
  unfold endH
  rw [List.flatMap_cons]
theorem end_flat : ∀ (ls : List TextH) (x : TextH), x ++ (ls.flatMap fun l => 13 :: 10 :: l) ++ [13, 10] = endH (x :: ls)
  | [], x => by
    rw [end_cons]
    simp [endH]
  | l :: ls, x => by
    have ih := end_flat ls l
    rw [end_cons, ← ih, List.flatMap_cons]
    simp
/-- A field's text, as the closure lays it. -/
theorem lay_text (f : FieldH) (_hn : f.1.length ≤ 900) (hb : f.2 ≠ []) (acc : TextH) :
    (soFarH (acc ++ (f.1 ++ [58])) (f.1.length + 1) (splitB 32 f.2)).2.2.2 = !(longH (linesH f)) ∧
    ((soFarH (acc ++ (f.1 ++ [58])) (f.1.length + 1) (splitB 32 f.2)).1 ++ [13, 10] = acc ++ endH (linesH f)) := by
  rw [split_words]
  unfold soFarH linesH
  rw [List.foldl_cons, if_neg hb]
  obtain ⟨w0, hw0⟩ : ∃ w0, (wordsH f.2).1 = w0 := ⟨_, rfl⟩
  obtain ⟨ws, hws⟩ : ∃ ws, (wordsH f.2).2 = ws := ⟨_, rfl⟩
  rw [hw0, hws]
  have e1 : layR10 (acc ++ (f.1 ++ [58]), f.1.length + 1, true, true) w0 = (acc ++ (f.1 ++ [58]) ++ (32 :: w0), f.1.length + 2 + w0.length, false, decide (f.1.length + 2 + w0.length ≤ 998)) := by
    unfold layR10 pieceH lineH brkH
    simp
    omega
  rw [e1]
  obtain ⟨r1, r2⟩ := run_go ws (acc ++ (f.1 ++ [58]) ++ (32 :: w0)) (f.1.length + 2 + w0.length) (decide (f.1.length + 2 + w0.length ≤ 998))
  rw [r1, r2]
  constructor
  · rw [long_cons]
    simp only [List.length_append, List.length_cons]
    by_cases h1 : f.1.length + 2 + w0.length ≤ 998
    · rw [go_ok ws _ h1, decide_eq_true h1, Bool.true_and]
      congr 2
      rw [decide_eq_decide]
      omega
    · rw [decide_eq_false h1, Bool.false_and, decide_eq_true (p := 998 < f.1.length + (w0.length + (foldH (f.1.length + 2 + w0.length) ws).1.length + 1 + 1)) (by omega)]
      rfl
  · rw [← end_flat, go_text]
    simp
theorem lay_none (f : FieldH) (hb : f.2 = []) (acc : TextH) : acc ++ (f.1 ++ [58]) ++ [13, 10] = acc ++ endH (linesH f) := by
  unfold linesH
  rw [if_pos hb, end_cons]
  simp [endH]
theorem long_none (f : FieldH) (hn : f.1.length ≤ 900) (hb : f.2 = []) : longH (linesH f) = false := by
  unfold linesH longH
  rw [if_pos hb]
  simp
  omega
end Go.Proofs.YtidlpdiephlkhaaGreatDoor
