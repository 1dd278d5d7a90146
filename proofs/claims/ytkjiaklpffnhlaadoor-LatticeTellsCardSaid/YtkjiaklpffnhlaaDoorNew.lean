/-
  What lattice.New comes to, for any two lists of strings, in any memory: nil and the error where they are no lattice, else a pointer to a fresh object that holds copies of both lists.
-/
import Derived.Test.YtkjiaklpffnhlaaDoorPrint
import Derived.RegionCalls
import Derived.Deep.RegionWith
import Derived.Deep.RegionHeld3
import Derived.StillTactics
namespace Go.Proofs.YtkjiaklpffnhlaaDoor
open Go.RowKit Go.Maps

theorem bcell {W w1 : World} (hb : Below W.heap.size W w1) : (∀ b o, b < W.heap.size → w1.cell? ⟨b, o, none⟩ = W.cell? ⟨b, o, none⟩) ∧ (∀ b o, b < W.heap.size → w1.frozen? ⟨b, o, none⟩ = W.frozen? ⟨b, o, none⟩) :=
  ⟨fun b o h => hb.cell (p := ⟨b, o, none⟩) h, fun b o h => hb.frozen (p := ⟨b, o, none⟩) h⟩

/-- The slice, if it is not empty, lies in block lo or behind it. -/
def Lies (A : Option Addr) (n lo : Nat) : Prop := 0 < n → ∀ b off, A = some ⟨b, off, none⟩ → lo ≤ b
theorem Strs.of_own_from {w : World} {n base : Nat} {ss : List ByteArray} {v : Value} {e : TypeId} (h : w.ownsRow base e 1 v n (ss.map .string)) : ∃ A c, v = .slice A n c ∧ Strs w w.heap.size A n c ss ∧ Lies A n base := by
  obtain ⟨A, c, rfl, hs⟩ := Strs.of_own h
  refine ⟨A, c, rfl, hs, fun _ b off e => ?_⟩
  subst e
  exact (h.lt b rfl).1
theorem Strs.setCell_ne {w : World} {B n c : Nat} {A : Option Addr} {ss : List ByteArray} (h : Strs w B A n c ss) {p : Addr} (hne : 0 < n → ∀ b off, A = some ⟨b, off, none⟩ → b ≠ p.block) (u : Value) : Strs (w.setCell p u) B A n c ss := by
  refine ⟨h.1, ?_⟩
  rcases h.2 with h0 | ⟨ad, rfl, h0 | ⟨b, off, rfl, hb, hc⟩⟩
  · exact .inl h0
  · exact .inr ⟨ad, rfl, .inl h0⟩
  · refine .inr ⟨_, rfl, .inr ⟨b, off, rfl, hb, fun j hj => ?_⟩⟩
    rw [World.cell?_setCell_other _ _ _ _ (by intro e; exact hne (by omega) b off rfl (by rw [e]))]
    exact hc j hj

/-- slices.Clone of strings, of whatever slice: the same strings, in memory of the call's own, or nil. -/
theorem clone_any (B n c : Nat) (A : Option Addr) (ss : List ByteArray) (w : World) (hB : B ≤ w.heap.size) (h : Strs w B A n c ss) (hn : n ≤ 1000) :
    Calls Tryd.prog 49 #[.slice A n c] w fun e w' => ∃ A1 c1, e = .returned (.slice A1 n c1) ∧ (Strs w' w'.heap.size A1 n c1 ss ∧ Lies A1 n w.heap.size) ∧ Below w.heap.size w w' := by
  have hl := h.len
  rcases h.2 with ⟨rfl, rfl, rfl⟩ | ⟨ad, rfl, h0 | ⟨b, off, rfl, hb, hc⟩⟩
  · refine (Tryd.slices_Clone_string_nil 0 0 w).mono ?_
    rintro e w' ⟨rfl, rfl⟩
    exact ⟨_, _, rfl, ⟨h.more hB, fun h0 => absurd h0 (by omega)⟩, Below.refl _ _⟩
  · subst h0
    have hs : ss = [] := List.eq_nil_of_length_eq_zero hl
    subst hs
    refine (Tryd.slices_Clone_string_zero ad c w).mono ?_
    rintro e w' ⟨v', rfl, hown, _, hb⟩
    obtain ⟨A1, c1, rfl, hs1⟩ := Strs.of_own_from (ss := []) (by simpa using hown)
    exact ⟨_, _, rfl, hs1, hb⟩
  · refine (Tryd.slices_Clone_string b off n c ss w (by omega) (by omega) (fun j hj => hc j (by omega))).mono ?_
    rintro e w' ⟨v', rfl, hown, _, hb⟩
    rw [List.take_of_length_le (by omega)] at hown
    obtain ⟨A1, c1, rfl, hs1⟩ := Strs.of_own_from hown
    exact ⟨_, _, rfl, hs1, hb⟩

/-- An object of lattice.Names in block N: its lists, below N; whether its table is made, and its maps; how often it was asked. -/
def NamesIn (w : World) (N n c n' c' : Nat) (A A' : Option Addr) (d mu : Int) (ml mc : Option Nat) (k : Int) : Prop :=
  w.heap[N]? = some (.cells #[.slice A n c, .slice A' n' c', .int .u32 d, .int .i32 mu, .int .u32 0, .map ml, .map mc, .int .i64 k] 90 (0, 0))
def NamesNew (w : World) (N n n' : Nat) (ss ss' : List ByteArray) : Prop :=
  ∃ A c A' c', NamesIn w N n c n' c' A A' 0 0 none none 0 ∧ Strs w N A n c ss ∧ Strs w N A' n' c' ss'

set_option maxHeartbeats 2000000 in
set_option maxRecDepth 100000 in
theorem new_no (B n c n' c' : Nat) (A A' : Option Addr) (ss ss' : List ByteArray) (w : World) (hB : B ≤ w.heap.size) (h1 : Strs w B A n c ss) (h2 : Strs w B A' n' c' ss') (hsz : ∀ s ∈ ss ++ ss', s.size ≤ maxLen) (hr : rightB ss ss' = false) :
    Calls Tryd.prog 35 #[.agg #[.slice A n c, .slice A' n' c']] w fun e w' => e = .returned (.tuple #[.pointer none, .int .i64 2]) ∧ Below w.heap.size w w' := by
  have Hr := Lib.hid hr
  clear hr
  go_enter Tryd.func35, Tryd.ntmps35
  go_wp2_with fail
  refine (right_any B n c n' c' A A' ss ss' _ (by simp; omega) (h1.alloc hB _) (h2.alloc hB _) hsz).mono ?_
  rintro e w1 ⟨rfl, hb1⟩
  rw [Hr.out]
  go_wp2
  go_ret2
  exact ⟨rfl, ((Below.refl _ _).alloc (Nat.le_refl _) _).trans (hb1.mono (by simp))⟩

set_option maxHeartbeats 2000000 in
set_option maxRecDepth 100000 in
theorem new_yes (B n c n' c' : Nat) (A A' : Option Addr) (ss ss' : List ByteArray) (w : World) (hB : B ≤ w.heap.size) (h1 : Strs w B A n c ss) (h2 : Strs w B A' n' c' ss') (hsz : ∀ s ∈ ss ++ ss', s.size ≤ maxLen) (hr : rightB ss ss' = true) :
    Calls Tryd.prog 35 #[.agg #[.slice A n c, .slice A' n' c']] w fun e w' => ∃ N, e = .returned (.tuple #[.pointer (some ⟨N, 0, none⟩), .int .i64 0]) ∧ w.heap.size ≤ N ∧ NamesNew w' N n n' ss ss' ∧ Below w.heap.size w w' := by
  have hc64 := right_comps hr
  rw [h2.len] at hc64
  have hl16 : n ≤ 16 := by
    have h := hr
    unfold rightB at h
    simp only [Bool.and_eq_true, decide_eq_true_eq] at h
    have := h1.len
    omega
  have Hr := Lib.hid hr
  clear hr
  go_enter Tryd.func35, Tryd.ntmps35
  go_wp2_with fail
  refine (right_any B n c n' c' A A' ss ss' _ (by simp; omega) (h1.alloc hB _) (h2.alloc hB _) hsz).mono ?_
  rintro e w1 ⟨rfl, hb1⟩
  rw [Hr.out]
  have hbw : Below w.heap.size w w1 := ((Below.refl _ _).alloc (Nat.le_refl _) _).trans (hb1.mono (by simp))
  have hz1 : w.heap.size < w1.heap.size := by have := hb1.size; simp at this; omega
  have d0 : w1.cell? ⟨w.heap.size, 0, none⟩ = some (.slice A n c) := by rw [hb1.cell (by simp)]; go_simp
  have d1 : w1.cell? ⟨w.heap.size, 1, none⟩ = some (.slice A' n' c') := by rw [hb1.cell (by simp)]; go_simp
  have s1 := (h1.below (hbw.mono hB)).more (B' := w1.heap.size) (by omega)
  have s2 := (h2.below (hbw.mono hB)).more (B' := w1.heap.size) (by omega)
  have hcl1 : Hid (∀ W, (W.cell? ⟨w.heap.size, 0, none⟩ = some (.slice A n c) ∧ W.cell? ⟨w.heap.size, 1, none⟩ = some (.slice A' n' c') ∧ Below w1.heap.size w1 W) → Calls Tryd.prog 49 #[.slice A n c] W fun e W' => ∃ A1 c1, e = .returned (.slice A1 n c1) ∧ (Strs W' W'.heap.size A1 n c1 ss ∧ Lies A1 n W.heap.size) ∧ Below W.heap.size W W' ∧ Below w1.heap.size w1 W') := Lib.hid fun W ⟨_, _, hW⟩ =>
    (clone_any w1.heap.size n c A ss W hW.size (s1.below hW) (by omega)).mono fun e W' ⟨A1, c1, he, hs, hb⟩ => ⟨A1, c1, he, hs, hb, hW.trans (hb.mono hW.size)⟩
  have hcl2 : Hid (∀ W, (W.cell? ⟨w.heap.size, 0, none⟩ = some (.slice A n c) ∧ W.cell? ⟨w.heap.size, 1, none⟩ = some (.slice A' n' c') ∧ Below w1.heap.size w1 W) → Calls Tryd.prog 49 #[.slice A' n' c'] W fun e W' => ∃ A1 c1, e = .returned (.slice A1 n' c1) ∧ (Strs W' W'.heap.size A1 n' c1 ss' ∧ Lies A1 n' W.heap.size) ∧ Below W.heap.size W W' ∧ Below w1.heap.size w1 W') := Lib.hid fun W ⟨_, _, hW⟩ =>
    (clone_any w1.heap.size n' c' A' ss' W hW.size (s2.below hW) (by omega)).mono fun e W' ⟨A1, c1, he, hs, hb⟩ => ⟨A1, c1, he, hs, hb, hW.trans (hb.mono hW.size)⟩
  have hK : Hid (∀ W', Below w1.heap.size w1 W' → (W'.cell? ⟨w.heap.size, 0, none⟩ = some (.slice A n c) ∧ W'.cell? ⟨w.heap.size, 1, none⟩ = some (.slice A' n' c') ∧ Below w1.heap.size w1 W')) := Lib.hid fun W' hb =>
    ⟨(hb.cell (p := ⟨w.heap.size, 0, none⟩) hz1).trans d0, (hb.cell (p := ⟨w.heap.size, 1, none⟩) hz1).trans d1, hb⟩
  have hK2 : Hid (∀ (W : World) (o : Obj), (W.cell? ⟨w.heap.size, 0, none⟩ = some (.slice A n c) ∧ W.cell? ⟨w.heap.size, 1, none⟩ = some (.slice A' n' c') ∧ Below w1.heap.size w1 W) → ((W.alloc o).cell? ⟨w.heap.size, 0, none⟩ = some (.slice A n c) ∧ (W.alloc o).cell? ⟨w.heap.size, 1, none⟩ = some (.slice A' n' c') ∧ Below w1.heap.size w1 (W.alloc o))) := Lib.hid fun W o ⟨_, _, hW⟩ => hK.out _ (hW.alloc hW.size _)
  have hr1 := Below.refl w1.heap.size w1
  clear hb1 h1 h2 s1 s2
  go_wp2_with fail
  go_region_held3 (fun W' => W'.cell? ⟨w.heap.size, 0, none⟩ = some (.slice A n c) ∧ W'.cell? ⟨w.heap.size, 1, none⟩ = some (.slice A' n' c') ∧ Below w1.heap.size w1 W')
    (first | assumption | exact hK.out _ (by assumption) | exact hK.out _ (Below.drew (by assumption)) | exact hK2.out _ _ (by assumption) | exact hK2.out _ _ (hK.out _ (by assumption)) | exact hK.out _ ((Below.setCell (by assumption) (by first | assumption | exact Nat.le_refl _) _).setCell (by first | assumption | exact Nat.le_refl _) _) | (refine hK.out _ ?_; trace_state; fail))
    (first
      | (go_at_call_of 49 (Value.slice A n c); refine (hcl1.out _ ?_).mono ?_; assumption; rintro e w2 ⟨A1, c1, rfl, ⟨hs2, hl2⟩, hb2, hbx2⟩; obtain ⟨hcc2, hff2⟩ := bcell hb2; have hz2 := hb2.size; try simp at hz2; try (have hy2 : w1.heap.size < w2.heap.size := by omega))
      | (go_at_call_of 49 (Value.slice A' n' c'); refine (hcl2.out _ ?_).mono ?_; assumption; rintro e w3 ⟨A2, c2, rfl, ⟨hs3, hl3⟩, hb3, hbx3⟩; obtain ⟨hcc3, hff3⟩ := bcell hb3; have hz3 := hb3.size; try simp at hz3; try (have hy3 : w1.heap.size < w3.heap.size := by omega)))
  · go_wp2
    go_ret2
    have hX : Below w1.heap.size w1 (w3.alloc (.cells #[Value.slice A1 n c1, Value.slice A2 n' c2] 24)) := hbx3.alloc hbx3.size _
    have hX2 : Below w3.heap.size w3 (w3.alloc (.cells #[Value.slice A1 n c1, Value.slice A2 n' c2] 24)) := (Below.refl _ _).alloc (Nat.le_refl _) _
    refine ⟨w3.heap.size + 1, rfl, by have := hbw.size; have := hbx3.size; omega, ⟨A1, c1, A2, c2, ?_, ?_, ?_⟩, hbw.trans ((hX.alloc hX.size _).mono (by omega))⟩
    · have := heap_alloc_new (w3.alloc (.cells #[Value.slice A1 n c1, Value.slice A2 n' c2] 24)) (.cells #[.slice A1 n c1, .slice A2 n' c2, .int .u32 0, .int .i32 0, .int .u32 0, .map none, .map none, .int .i64 0] 90)
      rw [World.size_alloc] at this
      exact this
    · exact (((hs2.below hb3).more hb3.size).below (hX2.alloc hX2.size _)).more (by omega)
    · exact (hs3.below (hX2.alloc hX2.size _)).more (by omega)
  · go_wp2
    go_ret2
    have hsz4 : ((w3.setCell ⟨w2.heap.size, 0, none⟩ (.slice A1 n c1)).setCell ⟨w2.heap.size, 1, none⟩ (.slice A2 n' c2)).heap.size = w3.heap.size := by simp [World.setCell]
    have hX : Below w1.heap.size w1 ((w3.setCell ⟨w2.heap.size, 0, none⟩ (.slice A1 n c1)).setCell ⟨w2.heap.size, 1, none⟩ (.slice A2 n' c2)) := (hbx3.setCell (p := ⟨w2.heap.size, 0, none⟩) (by simp; try omega) _).setCell (p := ⟨w2.heap.size, 1, none⟩) (by simp; try omega) _
    have hnew := heap_alloc_new ((w3.setCell ⟨w2.heap.size, 0, none⟩ (.slice A1 n c1)).setCell ⟨w2.heap.size, 1, none⟩ (.slice A2 n' c2)) (.cells #[.slice A1 n c1, .slice A2 n' c2, .int .u32 0, .int .i32 0, .int .u32 0, .map none, .map none, .int .i64 0] 90)
    rw [hsz4] at hnew
    refine ⟨w3.heap.size, rfl, by have := hbw.size; have := hbx3.size; omega, ⟨A1, c1, A2, c2, hnew, ?_, ?_⟩, hbw.trans ((hX.alloc (by omega) _).mono (by omega))⟩
    · have hY : Below w2.heap.size w2 w3 := ((Below.refl _ _).alloc (Nat.le_refl _) _).trans (hb3.mono (by simp))
      exact (hs2.below ((((hY.setCell (p := ⟨w2.heap.size, 0, none⟩) (Nat.le_refl _) _).setCell (p := ⟨w2.heap.size, 1, none⟩) (Nat.le_refl _) _)).alloc (by omega) _)).more (by omega)
    · have h3 : 0 < n' → ∀ b off, A2 = some ⟨b, off, none⟩ → b ≠ w2.heap.size := fun h0 b off e => by have := hl3 h0 b off e; (try simp at this); omega
      exact ((hs3.setCell_ne (p := ⟨w2.heap.size, 0, none⟩) h3 _).setCell_ne (p := ⟨w2.heap.size, 1, none⟩) h3 _).alloc (by omega) _
  · go_wp2
    go_ret2
    have hsz4 : ((w3.setCell ⟨w1.heap.size, 0, none⟩ (.slice A1 n c1)).setCell ⟨w1.heap.size, 1, none⟩ (.slice A2 n' c2)).heap.size = w3.heap.size := by simp [World.setCell]
    have hX : Below w1.heap.size w1 ((w3.setCell ⟨w1.heap.size, 0, none⟩ (.slice A1 n c1)).setCell ⟨w1.heap.size, 1, none⟩ (.slice A2 n' c2)) := (hbx3.setCell (p := ⟨w1.heap.size, 0, none⟩) (by simp; try omega) _).setCell (p := ⟨w1.heap.size, 1, none⟩) (by simp; try omega) _
    have hnew := heap_alloc_new ((w3.setCell ⟨w1.heap.size, 0, none⟩ (.slice A1 n c1)).setCell ⟨w1.heap.size, 1, none⟩ (.slice A2 n' c2)) (.cells #[.slice A1 n c1, .slice A2 n' c2, .int .u32 0, .int .i32 0, .int .u32 0, .map none, .map none, .int .i64 0] 90)
    rw [hsz4] at hnew
    refine ⟨w3.heap.size, rfl, by have := hbw.size; have := hbx3.size; omega, ⟨A1, c1, A2, c2, hnew, ?_, ?_⟩, hbw.trans ((hX.alloc (by omega) _).mono (by omega))⟩
    · have h2 : 0 < n → ∀ b off, A1 = some ⟨b, off, none⟩ → b ≠ w1.heap.size := fun h0 b off e => by have := hl2 h0 b off e; simp at this; omega
      exact ((((hs2.below hb3).setCell_ne (p := ⟨w1.heap.size, 0, none⟩) h2 _).setCell_ne (p := ⟨w1.heap.size, 1, none⟩) h2 _).alloc (by omega) _).more (by omega)
    · have h3 : 0 < n' → ∀ b off, A2 = some ⟨b, off, none⟩ → b ≠ w1.heap.size := fun h0 b off e => by have := hl3 h0 b off e; (try simp at this); omega
      exact ((hs3.setCell_ne (p := ⟨w1.heap.size, 0, none⟩) h3 _).setCell_ne (p := ⟨w1.heap.size, 1, none⟩) h3 _).alloc (by omega) _
end Go.Proofs.YtkjiaklpffnhlaaDoor
