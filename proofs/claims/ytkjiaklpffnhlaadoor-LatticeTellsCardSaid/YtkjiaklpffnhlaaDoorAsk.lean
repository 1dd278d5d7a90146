/-
  What the function comes to that lattice.Names hands to its sync.Once: both tables are made, and stored in the object; nothing else turns.
-/
import Derived.Test.YtkjiaklpffnhlaaDoorNew
import Derived.Test.YtkjiaklpffnhlaaDoorFind
namespace Go.Proofs.YtkjiaklpffnhlaaDoor
open Go.RowKit Go.Maps

section
variable {w w' : World} {N n c n' c' : Nat} {A A' : Option Addr} {d mu k : Int} {ml mc : Option Nat}
theorem NamesIn.cell (h : NamesIn w N n c n' c' A A' d mu ml mc k) (j : Nat) : w.cell? ⟨N, j, none⟩ = #[.slice A n c, .slice A' n' c', .int .u32 d, .int .i32 mu, .int .u32 0, .map ml, .map mc, .int .i64 k][j]? := Lib.cell_of_heap h j
theorem NamesIn.frozen (h : NamesIn w N n c n' c' A A' d mu ml mc k) (j : Nat) : w.frozen? ⟨N, j, none⟩ = false := Lib.frozen_of_heap h j
theorem NamesIn.lt (h : NamesIn w N n c n' c' A A' d mu ml mc k) : N < w.heap.size := (Array.getElem?_eq_some_iff.1 h).1
theorem NamesIn.set_ (h : NamesIn w N n c n' c' A A' d mu ml mc k) (j : Nat) (v : Value) :
    (w.setCell ⟨N, j, none⟩ v).heap[N]? = some (.cells (#[.slice A n c, .slice A' n' c', .int .u32 d, .int .i32 mu, .int .u32 0, .map ml, .map mc, .int .i64 k].setIfInBounds j v) 90 (0, 0)) := by
  unfold NamesIn at h
  simp [World.setCell, Array.getElem?_modify, h]
theorem NamesIn.set_levels (h : NamesIn w N n c n' c' A A' d mu ml mc k) (m : Option Nat) : NamesIn (w.setCell ⟨N, 5, none⟩ (.map m)) N n c n' c' A A' d mu m mc k := h.set_ 5 _
theorem NamesIn.set_comps (h : NamesIn w N n c n' c' A A' d mu ml mc k) (m : Option Nat) : NamesIn (w.setCell ⟨N, 6, none⟩ (.map m)) N n c n' c' A A' d mu ml m k := h.set_ 6 _
theorem NamesIn.set_done (h : NamesIn w N n c n' c' A A' d mu ml mc k) (x : Int) : NamesIn (w.setCell ⟨N, 2, none⟩ (.int .u32 x)) N n c n' c' A A' x mu ml mc k := h.set_ 2 _
theorem NamesIn.set_lock (h : NamesIn w N n c n' c' A A' d mu ml mc k) (x : Int) : NamesIn (w.setCell ⟨N, 3, none⟩ (.int .i32 x)) N n c n' c' A A' d x ml mc k := h.set_ 3 _
theorem NamesIn.set_asked (h : NamesIn w N n c n' c' A A' d mu ml mc k) (x : Int) : NamesIn (w.setCell ⟨N, 7, none⟩ (.int .i64 x)) N n c n' c' A A' d mu ml mc x := h.set_ 7 _
theorem NamesIn.grown (h : NamesIn w N n c n' c' A A' d mu ml mc k) {row : Option Nat} (hg : w.grownBy w' row) (hne : some N ≠ row) : NamesIn w' N n c n' c' A A' d mu ml mc k := (hg.block N h.lt hne).trans h
theorem NamesIn.below {B : Nat} (h : NamesIn w N n c n' c' A A' d mu ml mc k) (hb : Below B w w') (hN : N < B) : NamesIn w' N n c n' c' A A' d mu ml mc k := (hb.block N hN).trans h
end

theorem cell_lt {w : World} {a : Addr} {v : Value} (h : w.cell? a = some v) : a.block < w.heap.size := by
  rcases Nat.lt_or_ge a.block w.heap.size with h1 | h1
  · exact h1
  · rw [World.cell?, Array.getElem?_eq_none h1] at h
    simp at h
theorem grownBy_of_below {w w' : World} (h : Below w.heap.size w w') (row : Option Nat) : w.grownBy w' row := ⟨h.os, h.tape, h.output, h.size, fun k hk _ => h.block k hk⟩
theorem grownBy_set {w : World} (N j : Nat) (v : Value) : w.grownBy (w.setCell ⟨N, j, none⟩ v) (some N) :=
  ⟨rfl, rfl, rfl, by simp [World.setCell], fun k _ hne => Below.heap_setCell w ⟨N, j, none⟩ v k (fun e => hne (by rw [e]))⟩
theorem grownBy_trans {a b c : World} {row : Option Nat} (h : a.grownBy b row) (k : b.grownBy c row) : a.grownBy c row :=
  ⟨k.os.trans h.os, k.tape.trans h.tape, k.output.trans h.output, Nat.le_trans h.size k.size, fun i hi hne => (k.block i (Nat.lt_of_lt_of_le hi h.size) hne).trans (h.block i hi hne)⟩
theorem grownBy_drew (w : World) (row : Option Nat) : w.grownBy w.drew row := ⟨rfl, rfl, rfl, Nat.le_refl _, fun _ _ _ => rfl⟩
theorem below_of_grownBy {w w' : World} {N B : Nat} (h : w.grownBy w' (some N)) (hB : B ≤ w.heap.size) (hN : B ≤ N) : Below B w w' := (Below.refl _ _).grown h hB fun k e => by cases e; exact hN

set_option maxRecDepth 100000 in
set_option maxHeartbeats 2000000 in
theorem ask1_any (N pl n c n' c' : Nat) (A A' : Option Addr) (ss ss' : List ByteArray) (d mu k : Int) (w : World) (hpl : w.cell? ⟨pl, 0, none⟩ = some (.pointer (some ⟨N, 0, none⟩))) (hne : N ≠ pl)
    (h : NamesIn w N n c n' c' A A' d mu none none k) (h1 : Strs w N A n c ss) (h2 : Strs w N A' n' c' ss') (hn : n ≤ 1000) (hn' : n' ≤ 1000) (hsz : ∀ s ∈ ss ++ ss', s.size ≤ maxLen) :
    Calls Tryd.prog 64 #[.pointer (some ⟨pl, 0, none⟩)] w fun e w' => e = .returned (.tuple #[]) ∧ ∃ ml mc, NamesIn w' N n c n' c' A A' d mu (some ml) (some mc) k ∧ w.heap.size ≤ ml ∧ ml < mc ∧
      w'.ownsMap Tryd.prog 9 (plainElem (H := Unit) Tryd.prog 3) ml n (tabK ss ss.length) ∧ w'.ownsMap Tryd.prog 9 (plainElem (H := Unit) Tryd.prog 3) mc n' (tabK ss' ss'.length) ∧ w.grownBy w' (some N) := by
  have c0 := h.cell 0
  have c1 := h.cell 1
  simp at c0 c1
  have hlt := h.lt
  have hplt := cell_lt hpl
  simp at hplt
  have hk1 : Hid (∀ W V : World, (W.cell? ⟨pl, 0, none⟩ = some (.pointer (some ⟨N, 0, none⟩)) ∧ W.cell? ⟨N, 0, none⟩ = some (.slice A n c) ∧ Below N w W ∧ w.heap.size ≤ W.heap.size) → Below W.heap.size W V → (V.cell? ⟨pl, 0, none⟩ = some (.pointer (some ⟨N, 0, none⟩)) ∧ V.cell? ⟨N, 0, none⟩ = some (.slice A n c) ∧ Below N w V ∧ w.heap.size ≤ V.heap.size)) := Lib.hid fun W V ⟨a1, a2, a3, a4⟩ hb =>
    ⟨(hb.cell (p := ⟨pl, 0, none⟩) (by simp; omega)).trans a1, (hb.cell (p := ⟨N, 0, none⟩) (by simp; omega)).trans a2, a3.trans (hb.mono (by omega)), by have := hb.size; omega⟩
  have hs1 : Hid (∀ (W : World) (v : Value), (W.cell? ⟨pl, 0, none⟩ = some (.pointer (some ⟨N, 0, none⟩)) ∧ W.cell? ⟨N, 0, none⟩ = some (.slice A n c) ∧ Below N w W ∧ w.heap.size ≤ W.heap.size) → ((W.setCell ⟨N, 5, none⟩ v).cell? ⟨pl, 0, none⟩ = some (.pointer (some ⟨N, 0, none⟩)) ∧ (W.setCell ⟨N, 5, none⟩ v).cell? ⟨N, 0, none⟩ = some (.slice A n c) ∧ Below N w (W.setCell ⟨N, 5, none⟩ v) ∧ w.heap.size ≤ (W.setCell ⟨N, 5, none⟩ v).heap.size)) := Lib.hid fun W v ⟨a1, a2, a3, a4⟩ =>
    ⟨by rw [World.cell?_setCell_other _ _ _ _ (by intro e; injection e with e; exact hne e)]; exact a1, by rw [World.cell?_setCell_other _ _ _ _ (by intro e; injection e with _ e; cases e)]; exact a2, a3.setCell (p := ⟨N, 5, none⟩) (Nat.le_refl _) v, by simp [World.setCell]; exact a4⟩
  have hnum1 : Hid (∀ W, (W.cell? ⟨pl, 0, none⟩ = some (.pointer (some ⟨N, 0, none⟩)) ∧ W.cell? ⟨N, 0, none⟩ = some (.slice A n c) ∧ Below N w W ∧ w.heap.size ≤ W.heap.size) → Calls Tryd.prog 65 #[.slice A n c] W fun e W' => e = .returned (.map (some W.heap.size)) ∧ W'.ownsMap Tryd.prog 9 (plainElem (H := Unit) Tryd.prog 3) W.heap.size n (tabK ss ss.length) ∧ Below W.heap.size W W') :=
    Lib.hid fun W ⟨_, _, a3, a4⟩ => numbers_any N n c A ss W (by omega) (h1.below a3) hn (fun s hs => hsz s (List.mem_append_left _ hs))
  have hk2 : Hid (∀ W V : World, (W.cell? ⟨pl, 0, none⟩ = some (.pointer (some ⟨N, 0, none⟩)) ∧ W.cell? ⟨N, 1, none⟩ = some (.slice A' n' c') ∧ Below N w W ∧ w.heap.size ≤ W.heap.size) → Below W.heap.size W V → (V.cell? ⟨pl, 0, none⟩ = some (.pointer (some ⟨N, 0, none⟩)) ∧ V.cell? ⟨N, 1, none⟩ = some (.slice A' n' c') ∧ Below N w V ∧ w.heap.size ≤ V.heap.size)) := Lib.hid fun W V ⟨a1, a2, a3, a4⟩ hb =>
    ⟨(hb.cell (p := ⟨pl, 0, none⟩) (by simp; omega)).trans a1, (hb.cell (p := ⟨N, 1, none⟩) (by simp; omega)).trans a2, a3.trans (hb.mono (by omega)), by have := hb.size; omega⟩
  have hs2 : Hid (∀ (W : World) (v : Value), (W.cell? ⟨pl, 0, none⟩ = some (.pointer (some ⟨N, 0, none⟩)) ∧ W.cell? ⟨N, 1, none⟩ = some (.slice A' n' c') ∧ Below N w W ∧ w.heap.size ≤ W.heap.size) → ((W.setCell ⟨N, 6, none⟩ v).cell? ⟨pl, 0, none⟩ = some (.pointer (some ⟨N, 0, none⟩)) ∧ (W.setCell ⟨N, 6, none⟩ v).cell? ⟨N, 1, none⟩ = some (.slice A' n' c') ∧ Below N w (W.setCell ⟨N, 6, none⟩ v) ∧ w.heap.size ≤ (W.setCell ⟨N, 6, none⟩ v).heap.size)) := Lib.hid fun W v ⟨a1, a2, a3, a4⟩ =>
    ⟨by rw [World.cell?_setCell_other _ _ _ _ (by intro e; injection e with e; exact hne e)]; exact a1, by rw [World.cell?_setCell_other _ _ _ _ (by intro e; injection e with _ e; cases e)]; exact a2, a3.setCell (p := ⟨N, 6, none⟩) (Nat.le_refl _) v, by simp [World.setCell]; exact a4⟩
  have hnum2 : Hid (∀ W, (W.cell? ⟨pl, 0, none⟩ = some (.pointer (some ⟨N, 0, none⟩)) ∧ W.cell? ⟨N, 1, none⟩ = some (.slice A' n' c') ∧ Below N w W ∧ w.heap.size ≤ W.heap.size) → Calls Tryd.prog 65 #[.slice A' n' c'] W fun e W' => e = .returned (.map (some W.heap.size)) ∧ W'.ownsMap Tryd.prog 9 (plainElem (H := Unit) Tryd.prog 3) W.heap.size n' (tabK ss' ss'.length) ∧ Below W.heap.size W W') :=
    Lib.hid fun W ⟨_, _, a3, a4⟩ => numbers_any N n' c' A' ss' W (by omega) (h2.below a3) hn' (fun s hs => hsz s (List.mem_append_right _ hs))
  have hb0 := Below.refl N w
  have hz0 := Nat.le_refl w.heap.size
  have f5 := h.frozen 5
  have c5 := h.cell 5
  simp at c5
  clear hsz h1 h2 hn hn'
  go_enter Tryd.func64, Tryd.ntmps64
  go_wp2
  go_region_held3 (fun W => W.cell? ⟨pl, 0, none⟩ = some (.pointer (some ⟨N, 0, none⟩)) ∧ W.cell? ⟨N, 0, none⟩ = some (.slice A n c) ∧ Below N w W ∧ w.heap.size ≤ W.heap.size)
    (first | assumption | exact ⟨by assumption, by assumption, Below.drew (by assumption), by assumption⟩ | exact ⟨by assumption, by assumption, by assumption, by assumption⟩ | exact hk1.out _ _ (by assumption) (by assumption) | exact hs1.out _ _ (by assumption) | exact hs1.out _ _ (hk1.out _ _ (by assumption) (by assumption)) | (trace_state; fail))
    (first | (go_at_call 65; refine (hnum1.out _ ?_).mono ?_; assumption; rintro e w2 ⟨rfl, hm2, hb2⟩; have q5 := (hb2.cell (p := ⟨N, 5, none⟩) (by simp; omega)).trans c5; have p5 := (hb2.frozen (p := ⟨N, 5, none⟩) (by simp; omega)).trans f5))
  have hg2 : w.grownBy (w2.setCell ⟨N, 5, none⟩ (.map (some w.heap.size))) (some N) := grownBy_trans (grownBy_trans (grownBy_drew w _) (grownBy_of_below hb2 _)) (grownBy_set N 5 _)
  have hN2 : NamesIn (w2.setCell ⟨N, 5, none⟩ (.map (some w.heap.size))) N n c n' c' A A' d mu (some w.heap.size) none k :=
    NamesIn.set_levels (NamesIn.below (w := w.drew) (B := w.heap.size) h hb2 hlt) _
  have hB2 : Below N w (w2.setCell ⟨N, 5, none⟩ (.map (some w.heap.size))) := below_of_grownBy hg2 (by omega) (Nat.le_refl _)
  have hO2 : (w2.setCell ⟨N, 5, none⟩ (.map (some w.heap.size))).ownsMap Tryd.prog 9 (plainElem (H := Unit) Tryd.prog 3) w.heap.size n (tabK ss ss.length) := hm2.setCell (by simp; omega) _
  have hpl2 : (w2.setCell ⟨N, 5, none⟩ (.map (some w.heap.size))).cell? ⟨pl, 0, none⟩ = some (.pointer (some ⟨N, 0, none⟩)) := by
    rw [World.cell?_setCell_other _ _ _ _ (by intro e; injection e with e; exact hne e)]
    exact (hb2.cell (p := ⟨pl, 0, none⟩) hplt).trans hpl
  have hz2 : w.heap.size < (w2.setCell ⟨N, 5, none⟩ (.map (some w.heap.size))).heap.size := hO2.lt
  revert hg2 hN2 hB2 hO2 hpl2 hz2
  generalize w2.setCell ⟨N, 5, none⟩ (.map (some w.heap.size)) = w3
  intro hg2 hN2 hB2 hO2 hpl2 hz2
  have e1 := hN2.cell 1
  have e6 := hN2.cell 6
  have g6 := hN2.frozen 6
  simp at e1 e6
  have hz3 : w.heap.size ≤ w3.heap.size := by omega
  clear hb2 hm2 q5 p5
  go_wp2
  go_region_held3 (fun W => W.cell? ⟨pl, 0, none⟩ = some (.pointer (some ⟨N, 0, none⟩)) ∧ W.cell? ⟨N, 1, none⟩ = some (.slice A' n' c') ∧ Below N w W ∧ w.heap.size ≤ W.heap.size)
    (first | assumption | exact ⟨by assumption, by assumption, Below.drew (by assumption), by assumption⟩ | exact ⟨by assumption, by assumption, by assumption, by assumption⟩ | exact hk2.out _ _ (by assumption) (by assumption) | exact hs2.out _ _ (by assumption) | exact hs2.out _ _ (hk2.out _ _ (by assumption) (by assumption)) | (trace_state; fail))
    (first | (go_at_call 65; refine (hnum2.out _ ?_).mono ?_; assumption; rintro e w4 ⟨rfl, hm4, hb4⟩; have q6 := (hb4.cell (p := ⟨N, 6, none⟩) (by simp; omega)).trans e6; have p6 := (hb4.frozen (p := ⟨N, 6, none⟩) (by simp; omega)).trans g6))
  rename_i hH
  clear hH
  have hg4 : w3.grownBy (w4.setCell ⟨N, 6, none⟩ (.map (some w3.heap.size))) (some N) := grownBy_trans (grownBy_trans (grownBy_drew w3 _) (grownBy_of_below hb4 _)) (grownBy_set N 6 _)
  have hN4 : NamesIn (w4.setCell ⟨N, 6, none⟩ (.map (some w3.heap.size))) N n c n' c' A A' d mu (some w.heap.size) (some w3.heap.size) k :=
    NamesIn.set_comps (NamesIn.below (w := w3.drew) (B := w3.heap.size) hN2 hb4 (by omega)) _
  have hO4 : (w4.setCell ⟨N, 6, none⟩ (.map (some w3.heap.size))).ownsMap Tryd.prog 9 (plainElem (H := Unit) Tryd.prog 3) w3.heap.size n' (tabK ss' ss'.length) := hm4.setCell (by simp; omega) _
  have hO5 := hO2.kept hg4 (by simp; omega)
  revert hg4 hN4 hO4 hO5
  generalize w4.setCell ⟨N, 6, none⟩ (.map (some w3.heap.size)) = w5
  intro hg4 hN4 hO4 hO5
  clear hb4 hm4 q6 p6
  go_wp2
  go_end0
  exact ⟨rfl, _, _, hN4, Nat.le_refl _, hz2, hO5, hO4, grownBy_trans hg2 hg4⟩
end Go.Proofs.YtkjiaklpffnhlaaDoor
