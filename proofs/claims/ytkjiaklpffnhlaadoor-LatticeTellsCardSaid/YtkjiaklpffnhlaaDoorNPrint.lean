/-
  (*lattice.Names).Print and .Asked: the label's text as lattice.Print gives it, one asking counted; how many were counted.
-/
import Derived.Test.YtkjiaklpffnhlaaDoorAsks
namespace Go.Proofs.YtkjiaklpffnhlaaDoor
open Go.RowKit Go.Maps

set_option maxRecDepth 100000 in
set_option maxHeartbeats 1600000 in
theorem nasked_any (N n c n' c' : Nat) (A A' : Option Addr) (d mu k : Int) (ml mc : Option Nat) (w : World) (h : NamesIn w N n c n' c' A A' d mu ml mc k) (hk : -9223372036854775808 ≤ k ∧ k ≤ 9223372036854775807) :
    Calls Tryd.prog 37 #[.pointer (some ⟨N, 0, none⟩)] w fun e w' => e = .returned (.int .i64 k) ∧ w' = w := by
  have c7 := h.cell 7
  simp at c7
  have hl := load64_any ⟨N, 7, none⟩ k w c7
  have hw : wrap64 k = k := IntWalk.wrap64_in k hk
  go_enter Tryd.func37, Tryd.ntmps37
  go_wp2_with (first | (go_at_call 51; refine hl.mono ?_; rintro e w' ⟨rfl, rfl⟩))
  go_ret
  exact ⟨rfl, rfl⟩

set_option maxRecDepth 100000 in
set_option maxHeartbeats 1600000 in
theorem nprint_any (N n c n' c' : Nat) (A A' : Option Addr) (ss ss' : List ByteArray) (l k a : Int) (w : World) (h : NamesAt w N n c n' c' A A' ss ss' a) (hr : rightB ss ss' = true) :
    Calls Tryd.prog 36 #[.pointer (some ⟨N, 0, none⟩), .agg #[.int .i64 l, .int .u64 k]] w fun e w' => e = .returned (.tuple #[.string ⟨(printB ss ss' l k).1.toArray⟩, .int .i64 (printB ss ss' l k).2]) ∧ NamesMade w' N n c n' c' A A' ss ss' (wrap64 (a + 1)) ∧ w.grownBy w' (some N) := by
  have hlt := h.lt
  have hs16 := right_sizes hr
  have hc64 := right_comps hr
  have hl16 : ss.length ≤ 16 := by
    have h := hr
    unfold rightB at h
    simp only [Bool.and_eq_true, decide_eq_true_eq] at h
    exact h.1.1.2
  have hl12 : ss.length = n ∧ ss'.length = n' := by
    rcases h with ⟨_, h1, h2⟩ | ⟨h1, h2, _⟩
    · exact ⟨h1.len, h2.len⟩
    · exact ⟨h1.len, h2.len⟩
  obtain ⟨hl1, hl2⟩ := hl12
  have hg0 : w.grownBy (w.alloc (.cells #[.int .i64 l, .int .u64 k] 27)) none := World.grownBy_alloc w _ _
  have hg0' : w.grownBy (w.alloc (.cells #[.int .i64 l, .int .u64 k] 27)) (some N) := World.grownBy_alloc w _ _
  have hask := ask_any N n c n' c' A A' ss ss' a _ (h.grown hg0) (by omega) (by omega) (fun s hs => by have := hs16 s hs; simp [maxLen]; omega)
  have b0 : (w.alloc (.cells #[.int .i64 l, .int .u64 k] 27)).cell? ⟨w.heap.size, 0, none⟩ = some (.int .i64 l) := by go_simp
  have b1 : (w.alloc (.cells #[.int .i64 l, .int .u64 k] 27)).cell? ⟨w.heap.size, 1, none⟩ = some (.int .u64 k) := by go_simp
  have hz : (w.alloc (.cells #[.int .i64 l, .int .u64 k] 27)).heap.size = w.heap.size + 1 := by simp
  have hpr : Hid (∀ W, NamesMade W N n c n' c' A A' ss ss' (wrap64 (a + 1)) → Calls Tryd.prog 38 #[.agg #[.slice A n c, .slice A' n' c'], .agg #[.int .i64 l, .int .u64 k]] W fun e w' => e = .returned (.tuple #[.string ⟨(printB ss ss' l k).1.toArray⟩, .int .i64 (printB ss ss' l k).2]) ∧ NamesMade w' N n c n' c' A A' ss ss' (wrap64 (a + 1)) ∧ W.grownBy w' none) := Lib.hid fun W hW => by
    have hW' := hW
    obtain ⟨h1, h2, _⟩ := hW
    have hlt' := hW'.lt
    cases hh : hasB n n' l k with
    | false =>
      have hp : printB ss ss' l k = ([], 8) := by unfold printB; rw [hr, hl1, hl2, hh]; rfl
      rw [hp]
      exact (printRight_no n c n' c' A A' l k W hh).mono fun e w' ⟨he, hb⟩ => ⟨he, hW'.grown (grownBy_of_below hb none), grownBy_of_below hb none⟩
    | true =>
      have hp : printB ss ss' l k = (textT ss ss' l k, 0) := by unfold printB; rw [hr, hl1, hl2, hh]; rfl
      rw [hp]
      exact (printRight_yes N n c n' c' A A' ss ss' l k W (by omega) h1 h2 hh (by omega) hs16).mono fun e w' ⟨he, hb⟩ => ⟨he, hW'.grown (grownBy_of_below hb none), grownBy_of_below hb none⟩
  revert hg0' hask b0 b1 hz
  generalize hw0 : w.alloc (.cells #[.int .i64 l, .int .u64 k] 27) = w0
  intro hg0' hask b0 b1 hz
  generalize hR : printB ss ss' l k = R at hpr ⊢
  clear hR hg0 hl1 hl2 hl16 hc64 hs16 hr h
  have Hw0 := Lib.hid hw0
  clear hw0
  go_enter Tryd.func36, Tryd.ntmps36
  go_wp2_with fail
  rw [Hw0.out]
  refine hask.mono ?_
  rintro e w1 ⟨rfl, hM, hg1⟩
  have hbl : w1.heap[w.heap.size]? = w0.heap[w.heap.size]? := hg1.block _ (by omega) (by simp; omega)
  have e0 : w1.cell? ⟨w.heap.size, 0, none⟩ = some (.int .i64 l) := by rw [← b0]; unfold World.cell?; rw [hbl]
  have e1 : w1.cell? ⟨w.heap.size, 1, none⟩ = some (.int .u64 k) := by rw [← b1]; unfold World.cell?; rw [hbl]
  obtain ⟨ml, mc, hN⟩ := hM.2.2
  have c0 := hN.1.cell 0
  have c1 := hN.1.cell 1
  simp at c0 c1
  have hMd : NamesMade w1.drew N n c n' c' A A' ss ss' (wrap64 (a + 1)) := hM.grown (grownBy_drew w1 none)
  have hgd : w.grownBy w1.drew (some N) := grownBy_trans hg0' (grownBy_trans hg1 (grownBy_drew w1 _))
  clear hask hg1 hg0' hN hbl Hw0 b0 b1 hz
  go_wp2_with fail
  go_region_with (first | (go_at_call 38; refine (hpr.out _ hMd).mono ?_; rintro e w2 ⟨rfl, hM2, hg2⟩))
  all_goals
    go_wp2
    go_ret2
    exact ⟨rfl, hM2, grownBy_trans hgd ⟨hg2.os, hg2.tape, hg2.output, hg2.size, fun k a _ => hg2.block k a (by simp)⟩⟩
end Go.Proofs.YtkjiaklpffnhlaaDoor
