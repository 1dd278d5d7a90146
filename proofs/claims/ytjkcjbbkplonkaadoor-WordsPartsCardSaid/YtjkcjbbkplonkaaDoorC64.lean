/-
  A coder: made, its table made once, its decoding and its count.
-/
import Derived.Test.YtjkcjbbkplonkaaDoorT64
import Derived.Test.YtjkcjbbkplonkaaDoorR3D
import Derived.Test.YtjkcjbbkplonkaaDoorSync
import Derived.RegionCalls
import Derived.Deep.RegionWith
import Derived.Deep.RegionHeld3
import Derived.StillTactics
namespace Go.Proofs.YtjkcjbbkplonkaaDoor
open Go.RowKit Go.Maps

/-- A coder's cells in the block N: the Once's, the table's, the count. -/
def CoderIn (w : World) (N : Nat) (d mu k : Int) (f : Nat → Nat) : Prop :=
  ∃ cs, Held w N cs 77 ∧ cs.size = 260 ∧ cs[0]? = some (.int .u32 d) ∧ cs[1]? = some (.int .i32 mu) ∧ cs[2]? = some (.int .u32 0) ∧ cs[259]? = some (.int .i64 k) ∧ TabIs cs 3 f
theorem zero_coder : Tryd.zeroCells77 = #[.int .u32 0, .int .i32 0, .int .u32 0] ++ Array.replicate 256 (.int .u8 0) ++ #[.int .i64 0] := by kernel_rfl
section
variable {w w' : World} {N : Nat} {d mu k : Int} {f : Nat → Nat}
theorem CoderIn.lt (h : CoderIn w N d mu k f) : N < w.heap.size := by
  obtain ⟨cs, h, _⟩ := h
  exact h.lt
theorem CoderIn.cells (h : CoderIn w N d mu k f) : w.cell? ⟨N, 0, none⟩ = some (.int .u32 d) ∧ w.cell? ⟨N, 1, none⟩ = some (.int .i32 mu) ∧ w.cell? ⟨N, 259, none⟩ = some (.int .i64 k) ∧ ∀ j, w.frozen? ⟨N, j, none⟩ = false := by
  obtain ⟨cs, h, hz, h0, h1, h2, h3, ht⟩ := h
  exact ⟨(h.cell 0).trans h0, (h.cell 1).trans h1, (h.cell 259).trans h3, h.frozen⟩
theorem tab_other {cs : Array Value} {j : Nat} {v : Value} (h : TabIs cs 3 f) (hj : j < 3 ∨ 259 ≤ j) : TabIs (cs.setIfInBounds j v) 3 f := fun i hi => by
  rw [Array.getElem?_setIfInBounds, if_neg (by omega)]
  exact h i hi
theorem CoderIn.set_done (h : CoderIn w N d mu k f) (x : Int) : CoderIn (w.setCell ⟨N, 0, none⟩ (.int .u32 x)) N x mu k f := by
  obtain ⟨cs, h, hz, h0, h1, h2, h3, ht⟩ := h
  exact ⟨_, h.set_ 0 _, by simpa using hz, by rw [set_get _ _ _ _ (by omega), if_pos rfl], by rw [set_get _ _ _ _ (by omega), if_neg (by omega)]; exact h1, by rw [set_get _ _ _ _ (by omega), if_neg (by omega)]; exact h2, by rw [set_get _ _ _ _ (by omega), if_neg (by omega)]; exact h3, tab_other ht (by omega)⟩
theorem CoderIn.set_lock (h : CoderIn w N d mu k f) (x : Int) : CoderIn (w.setCell ⟨N, 1, none⟩ (.int .i32 x)) N d x k f := by
  obtain ⟨cs, h, hz, h0, h1, h2, h3, ht⟩ := h
  exact ⟨_, h.set_ 1 _, by simpa using hz, by rw [set_get _ _ _ _ (by omega), if_neg (by omega)]; exact h0, by rw [set_get _ _ _ _ (by omega), if_pos rfl], by rw [set_get _ _ _ _ (by omega), if_neg (by omega)]; exact h2, by rw [set_get _ _ _ _ (by omega), if_neg (by omega)]; exact h3, tab_other ht (by omega)⟩
theorem CoderIn.set_told (h : CoderIn w N d mu k f) (x : Int) : CoderIn (w.setCell ⟨N, 259, none⟩ (.int .i64 x)) N d mu x f := by
  obtain ⟨cs, h, hz, h0, h1, h2, h3, ht⟩ := h
  exact ⟨_, h.set_ 259 _, by simpa using hz, by rw [set_get _ _ _ _ (by omega), if_neg (by omega)]; exact h0, by rw [set_get _ _ _ _ (by omega), if_neg (by omega)]; exact h1, by rw [set_get _ _ _ _ (by omega), if_neg (by omega)]; exact h2, by rw [set_get _ _ _ _ (by omega), if_pos rfl], tab_other ht (by omega)⟩
theorem CoderIn.below {B : Nat} (h : CoderIn w N d mu k f) (hb : Below B w w') (hN : N < B) : CoderIn w' N d mu k f := by
  obtain ⟨cs, h, r⟩ := h
  exact ⟨cs, (hb.block N hN).trans h, r⟩
end
theorem grownC_set {w : World} (N j : Nat) (v : Value) : w.grownBy (w.setCell ⟨N, j, none⟩ v) (some N) :=
  ⟨rfl, rfl, rfl, by simp [World.setCell], fun k _ hne => Below.heap_setCell w ⟨N, j, none⟩ v k (fun e => hne (by rw [e]))⟩
theorem grownC_trans {a b c : World} {row : Option Nat} (h : a.grownBy b row) (k : b.grownBy c row) : a.grownBy c row :=
  ⟨k.os.trans h.os, k.tape.trans h.tape, k.output.trans h.output, Nat.le_trans h.size k.size, fun i hi hne => (k.block i (Nat.lt_of_lt_of_le hi h.size) hne).trans (h.block i hi hne)⟩
theorem grownC_drew (w : World) (row : Option Nat) : w.grownBy w.drew row := ⟨rfl, rfl, rfl, Nat.le_refl _, fun _ _ _ => rfl⟩
theorem grownC_below {w w' : World} (h : Below w.heap.size w w') (row : Option Nat) : w.grownBy w' row := ⟨h.os, h.tape, h.output, h.size, fun k hk _ => h.block k hk⟩

set_option maxRecDepth 100000 in
set_option maxHeartbeats 2000000 in
theorem new_any (w : World) : Calls Tryd.prog 29 #[] w fun e w' => e = .returned (.pointer (some ⟨w.heap.size, 0, none⟩)) ∧ CoderIn w' w.heap.size 0 0 0 (fun _ => 0) ∧ Below w.heap.size w w' := by
  go_enter Tryd.func29, Tryd.ntmps29
  go_wp2
  go_ret
  refine ⟨rfl, ⟨_, heap_alloc_new w _, ?_⟩, (Below.refl _ w).alloc (Nat.le_refl _) _⟩
  rw [zero_coder]
  refine ⟨by simp, by simp, by simp, by simp, by rw [Array.getElem?_append_right (by simp)]; simp, fun i hi => ?_⟩
  rw [Array.getElem?_append_left (by simp; omega), Array.getElem?_append_right (by simp)]
  simp [show 3 + i - 3 = i by omega, hi]

/-- The table is made in the coder. -/
theorem fill_any (N : Nat) (d mu k : Int) (f : Nat → Nat) (w : World) (h : CoderIn w N d mu k f) :
    Calls Tryd.prog 41 #[.pointer (some ⟨N, 3, none⟩)] w fun e w' => e = .returned (.tuple #[]) ∧ CoderIn w' N d mu k (tabV 64) ∧ w.grownBy w' (some N) := by
  obtain ⟨cs, h, hz, h0, h1, h2, h3, ht⟩ := h
  refine (build_any N 3 cs 77 f w h (by omega) ht).mono ?_
  rintro e w' ⟨he, cs', hh, hsb, ht', hg⟩
  exact ⟨he, ⟨cs', hh, by rw [hsb.1, hz], by rw [hsb.2 0 (by omega)]; exact h0, by rw [hsb.2 1 (by omega)]; exact h1, by rw [hsb.2 2 (by omega)]; exact h2, by rw [hsb.2 259 (by omega)]; exact h3, ht'⟩, hg⟩

set_option maxRecDepth 100000 in
set_option maxHeartbeats 1600000 in
/-- sync.Once's slow road for the coder's table, not made yet. -/
theorem cslow_any (N : Nat) (k : Int) (f : Nat → Nat) (w : World) (h : CoderIn w N 0 0 k f) :
    Calls Tryd.prog 54 #[.pointer (some ⟨N, 0, none⟩), .func (.func 41) #[.pointer (some ⟨N, 3, none⟩)] #[]] w fun e w' => e = .returned (.tuple #[]) ∧ CoderIn w' N 1 0 k (tabV 64) ∧ w.grownBy w' (some N) := by
  have hL := h.set_lock 1
  have hg1 : w.grownBy (w.setCell ⟨N, 1, none⟩ (.int .i32 1)) (some N) := grownC_set N 1 _
  obtain ⟨_, c1, _, fz⟩ := h.cells
  have hlock := lock_any ⟨N, 1, none⟩ w c1 (fz 1)
  revert hL hg1
  generalize w.setCell ⟨N, 1, none⟩ (.int .i32 1) = w1 at hlock ⊢
  intro hL hg1
  have hl := bool_no ⟨N, 0, none⟩ w1 hL.cells.1
  have hask := fill_any N 0 1 k f w1 hL
  have hnot : ∀ (x : Bool) (w : World), (Op.unary .not (.bool x)).run Tryd.prog w = .ok (.bool (!x)) w := fun _ _ => rfl
  go_enter_defers Tryd.func54, Tryd.ntmps54
  go_wp2_with (first | (go_at_call 63; refine hlock.mono ?_; rintro e w' ⟨rfl, rfl⟩) | (go_at_call 53; refine hl.mono ?_; rintro e w' ⟨rfl, rfl⟩) | (go_at_call 41; refine hask.mono ?_; rintro e w2 ⟨rfl, hN, hg2⟩))
  go_wp2
  have q2 := hN.cells.1
  have r2 := hN.cells.2.2.2 0
  refine leaves_cons (f := 65) (args := #[.pointer (some ⟨N, 0, none⟩), .bool true]) (by simp) (by simp [go_sem]) ?_
  refine (store_later ⟨N, 0, none⟩ (.int .u32 0) .returning _ q2 r2).mono ?_
  rintro e u' w3 ⟨rfl, rfl, rfl⟩
  have hN3 : CoderIn (w2.drew.setCell ⟨N, 0, none⟩ (.int .u32 1)) N 1 1 k (tabV 64) := CoderIn.set_done (w := w2.drew) hN 1
  have hg3 : w2.grownBy (w2.drew.setCell ⟨N, 0, none⟩ (.int .u32 1)) (some N) := grownC_trans (grownC_drew w2 _) (grownC_set N 0 _)
  revert hN3 hg3
  generalize w2.drew.setCell ⟨N, 0, none⟩ (.int .u32 1) = w3
  intro hN3 hg3
  have q3 := hN3.cells.2.1
  have r3 := hN3.cells.2.2.2 1
  refine leaves_cons (f := 64) (args := #[.pointer (some ⟨N, 1, none⟩)]) (by simp [settle]) (by simp [go_sem]) ?_
  refine (unlock_later ⟨N, 1, none⟩ _ _ q3 r3).mono ?_
  rintro e u' w4 ⟨rfl, rfl, rfl⟩
  simp only [Leaves, settle]
  exact ⟨_, results_none rfl _ _ _, rfl, hN3.set_lock 0, grownC_trans hg1 (grownC_trans hg2 (grownC_trans hg3 (grownC_set N 1 _)))⟩

theorem cdo_first (N : Nat) (k : Int) (f : Nat → Nat) (w : World) (h : CoderIn w N 0 0 k f) :
    Calls Tryd.prog 40 #[.pointer (some ⟨N, 0, none⟩), .func (.func 41) #[.pointer (some ⟨N, 3, none⟩)] #[]] w fun e w' => e = .returned (.tuple #[]) ∧ CoderIn w' N 1 0 k (tabV 64) ∧ w.grownBy w' (some N) := by
  have hl := bool_no ⟨N, 0, none⟩ w h.cells.1
  have hs := cslow_any N k f w h
  have hnot : ∀ (x : Bool) (w : World), (Op.unary .not (.bool x)).run Tryd.prog w = .ok (.bool (!x)) w := fun _ _ => rfl
  go_enter Tryd.func40, Tryd.ntmps40
  go_wp2_with (first | (go_at_call 53; refine hl.mono ?_; rintro e w' ⟨rfl, rfl⟩) | (go_at_call 54; refine hs.mono ?_; rintro e w' ⟨rfl, hw⟩))
  go_end0
  exact ⟨rfl, hw⟩
theorem cdo_again (N : Nat) (fv : Value) (k : Int) (f : Nat → Nat) (w : World) (h : CoderIn w N 1 0 k f) :
    Calls Tryd.prog 40 #[.pointer (some ⟨N, 0, none⟩), fv] w fun e w' => e = .returned (.tuple #[]) ∧ w' = w := by
  have hl := bool_yes ⟨N, 0, none⟩ w h.cells.1
  have hnot : ∀ (x : Bool) (w : World), (Op.unary .not (.bool x)).run Tryd.prog w = .ok (.bool (!x)) w := fun _ _ => rfl
  go_enter Tryd.func40, Tryd.ntmps40
  go_wp2_with (first | (go_at_call 53; refine hl.mono ?_; rintro e w' ⟨rfl, rfl⟩))
  go_end0
  exact ⟨rfl, rfl⟩
/-- A coder, its table made or not. -/
def CoderAt (w : World) (N : Nat) (k : Int) : Prop := CoderIn w N 0 0 k (fun _ => 0) ∨ CoderIn w N 1 0 k (tabV 64)
theorem cdo_any (N : Nat) (k : Int) (w : World) (h : CoderAt w N k) :
    Calls Tryd.prog 40 #[.pointer (some ⟨N, 0, none⟩), .func (.func 41) #[.pointer (some ⟨N, 3, none⟩)] #[]] w fun e w' => e = .returned (.tuple #[]) ∧ CoderIn w' N 1 0 k (tabV 64) ∧ w.grownBy w' (some N) := by
  rcases h with h | h
  · exact cdo_first N k _ w h
  · refine (cdo_again N _ k _ w h).mono ?_
    rintro e w' ⟨rfl, rfl⟩
    exact ⟨rfl, h, ⟨rfl, rfl, rfl, Nat.le_refl _, fun _ _ _ => rfl⟩⟩

set_option maxRecDepth 100000 in
set_option maxHeartbeats 2000000 in
theorem cdec_any (N : Nat) (k : Int) (s : ByteArray) (w : World) (h : CoderAt w N k) (hs : s.size ≤ 100000000) :
    Calls Tryd.prog 32 #[.pointer (some ⟨N, 0, none⟩), .string s] w fun e w' => e = .returned (decV (decB s.data.toList)) ∧ CoderIn w' N 1 0 (wrap64 (k + ((decB s.data.toList).getD []).length)) (tabV 64) ∧ w.grownBy w' (some N) := by
  have hmf : ∀ (fn : Fn) (first cap : Array Value) (w : World), (Instr.makeFunc fn first cap).run Tryd.prog w = .ok (.func fn first cap) w := fun _ _ _ _ => rfl
  have hdo : Hid (∀ W, (CoderAt W N k ∧ w.grownBy W (some N)) → Calls Tryd.prog 40 #[.pointer (some ⟨N, 0, none⟩), .func (.func 41) #[.pointer (some ⟨N, 3, none⟩)] #[]] W fun e w' => e = .returned (.tuple #[]) ∧ CoderIn w' N 1 0 k (tabV 64) ∧ w.grownBy w' (some N)) := Lib.hid fun W hW =>
    (cdo_any N k W hW.1).mono fun e w' ⟨he, hc, hg⟩ => ⟨he, hc, grownC_trans hW.2 hg⟩
  obtain ⟨d, f, hh⟩ : ∃ d f, CoderIn w N d 0 k f := by
    rcases h with h | h
    · exact ⟨_, _, h⟩
    · exact ⟨_, _, h⟩
  have c0 := hh.cells.1
  have c1 := hh.cells.2.1
  have c9 := hh.cells.2.2.1
  have hlt := hh.lt
  have hat : Hid (CoderAt w.drew N k) := Lib.hid h
  have hgd : Hid (w.grownBy w.drew (some N)) := Lib.hid (grownC_drew w _)
  go_enter Tryd.func32, Tryd.ntmps32
  go_wp2
  go_region_held3 (fun W => CoderAt W N k ∧ w.grownBy W (some N))
    (first | exact ⟨hat.out, hgd.out⟩ | exact ⟨Or.inr (by assumption), by assumption⟩ | assumption | (trace_state; fail))
    (first | (go_at_call 40; refine (hdo.out _ ?_).mono ?_; assumption; rintro e w2 ⟨rfl, hc2, hg2⟩))
  rename_i hH
  clear hH hdo hat hgd c0 c1 c9 hh h
  have hlt2 := hc2.lt
  have hdc : Calls Tryd.prog 42 #[.pointer (some ⟨N, 3, none⟩), .string s] w2 fun e w' => e = .returned (decV (decB s.data.toList)) ∧ Below w2.heap.size w2 w' := by
    obtain ⟨cs, h, _, _, _, _, _, ht⟩ := hc2
    exact decode_any N 3 cs 77 s w2 h ht hs
  obtain ⟨r, hr⟩ : ∃ r, decB s.data.toList = r := ⟨_, rfl⟩
  rw [hr] at hdc
  have Hr := Lib.hid hr
  clear hr
  have fin : ∀ (x : Int) (W : World), Below w2.heap.size w2 W → CoderIn (W.setCell ⟨N, 259, none⟩ (.int .i64 x)) N 1 0 x (tabV 64) ∧ w.grownBy (W.setCell ⟨N, 259, none⟩ (.int .i64 x)) (some N) := fun x W hb =>
    ⟨(hc2.below hb hlt2).set_told x, grownC_trans hg2 (grownC_trans (grownC_below hb _) (grownC_set N 259 _))⟩
  have Fin := Lib.hid fin
  clear fin
  cases r with
  | none =>
    go_wp2_with (go_at_call 42; refine hdc.mono ?_)
    rintro e w3 ⟨rfl, hw3⟩
    have hc3 := hc2.below hw3 hlt2
    have hadd := add64_by ⟨N, 259, none⟩ k 0 w3 hc3.cells.2.2.1 (hc3.cells.2.2.2 259)
    unfold decV
    clear hdc hc3
    go_wp2_with (go_at_call 43; refine hadd.mono ?_; rintro e w4 ⟨rfl, hw4⟩)
    go_ret2
    subst hw4
    obtain ⟨f1, f2⟩ := Fin.out (wrap64 k) w3 hw3
    exact ⟨by rw [Hr.out]; rfl, by rw [Hr.out]; simpa using f1, f2⟩
  | some l =>
    go_wp2_with (go_at_call 42; refine hdc.mono ?_)
    rintro e w3 ⟨rfl, hw3⟩
    have hc3 := hc2.below hw3 hlt2
    have hadd := add64_by ⟨N, 259, none⟩ k l.length w3 hc3.cells.2.2.1 (hc3.cells.2.2.2 259)
    unfold decV
    clear hdc hc3
    go_wp2_with (go_at_call 43; refine hadd.mono ?_; rintro e w4 ⟨rfl, hw4⟩)
    go_ret2
    subst hw4
    obtain ⟨f1, f2⟩ := Fin.out (wrap64 (k + l.length)) w3 hw3
    exact ⟨by rw [Hr.out]; rfl, by rw [Hr.out]; exact f1, f2⟩
end Go.Proofs.YtjkcjbbkplonkaaDoor
