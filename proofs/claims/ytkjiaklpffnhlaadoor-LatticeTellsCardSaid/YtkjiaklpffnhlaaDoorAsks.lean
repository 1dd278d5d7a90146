/-
  (*lattice.Names).ask: one more asking is counted, and the tables are there afterwards, made now or before.
-/
import Derived.Test.YtkjiaklpffnhlaaDoorOnce
namespace Go.Proofs.YtkjiaklpffnhlaaDoor
open Go.RowKit Go.Maps

/-- The object in block N with both its tables made, in memory behind it. -/
def NamesMade (w : World) (N n c n' c' : Nat) (A A' : Option Addr) (ss ss' : List ByteArray) (k : Int) : Prop :=
  Strs w N A n c ss ∧ Strs w N A' n' c' ss' ∧ ∃ ml mc, NamesIn w N n c n' c' A A' 1 0 (some ml) (some mc) k ∧ N < ml ∧ N < mc ∧
    w.ownsMap Tryd.prog 9 (plainElem (H := Unit) Tryd.prog 3) ml n (tabK ss ss.length) ∧ w.ownsMap Tryd.prog 9 (plainElem (H := Unit) Tryd.prog 3) mc n' (tabK ss' ss'.length)
/-- The object in block N, its tables made or not. -/
def NamesAt (w : World) (N n c n' c' : Nat) (A A' : Option Addr) (ss ss' : List ByteArray) (k : Int) : Prop :=
  (NamesIn w N n c n' c' A A' 0 0 none none k ∧ Strs w N A n c ss ∧ Strs w N A' n' c' ss') ∨ NamesMade w N n c n' c' A A' ss ss' k

section
variable {w w' : World} {N n c n' c' : Nat} {A A' : Option Addr} {ss ss' : List ByteArray} {k : Int}
theorem NamesMade.at_ (h : NamesMade w N n c n' c' A A' ss ss' k) : NamesAt w N n c n' c' A A' ss ss' k := .inr h
theorem NamesMade.lt (h : NamesMade w N n c n' c' A A' ss ss' k) : N < w.heap.size := by
  obtain ⟨_, _, ml, mc, h, _⟩ := h
  exact h.lt
theorem NamesAt.lt (h : NamesAt w N n c n' c' A A' ss ss' k) : N < w.heap.size := by
  rcases h with ⟨h, _⟩ | h
  · exact h.lt
  · exact h.lt
theorem NamesMade.grown (h : NamesMade w N n c n' c' A A' ss ss' k) (hg : w.grownBy w' none) : NamesMade w' N n c n' c' A A' ss ss' k := by
  have hlt := h.lt
  obtain ⟨h1, h2, ml, mc, h, hm, hc, o1, o2⟩ := h
  have hb : Below N w w' := below_of_grownBy ⟨hg.os, hg.tape, hg.output, hg.size, fun k a _ => hg.block k a (by simp)⟩ (by omega) (Nat.le_refl _)
  exact ⟨h1.below hb, h2.below hb, ml, mc, h.grown hg (by simp), hm, hc, o1.kept hg (by simp), o2.kept hg (by simp)⟩
theorem NamesAt.grown (h : NamesAt w N n c n' c' A A' ss ss' k) (hg : w.grownBy w' none) : NamesAt w' N n c n' c' A A' ss ss' k := by
  rcases h with ⟨h, h1, h2⟩ | h
  · have hlt := h.lt
    have hb : Below N w w' := below_of_grownBy ⟨hg.os, hg.tape, hg.output, hg.size, fun k a _ => hg.block k a (by simp)⟩ (by omega) (Nat.le_refl _)
    exact .inl ⟨h.grown hg (by simp), h1.below hb, h2.below hb⟩
  · exact .inr (h.grown hg)
end

set_option maxRecDepth 100000 in
set_option maxHeartbeats 1600000 in
theorem ask_any (N n c n' c' : Nat) (A A' : Option Addr) (ss ss' : List ByteArray) (k : Int) (w : World) (h : NamesAt w N n c n' c' A A' ss ss' k) (hn : n ≤ 1000) (hn' : n' ≤ 1000) (hsz : ∀ s ∈ ss ++ ss', s.size ≤ maxLen) :
    Calls Tryd.prog 50 #[.pointer (some ⟨N, 0, none⟩)] w fun e w' => e = .returned (.tuple #[]) ∧ NamesMade w' N n c n' c' A A' ss ss' (wrap64 (k + 1)) ∧ w.grownBy w' (some N) := by
  have hmf : ∀ (fn : Fn) (first cap : Array Value) (w : World), (Instr.makeFunc fn first cap).run Tryd.prog w = .ok (.func fn first cap) w := fun _ _ _ _ => rfl
  have hlt := h.lt
  have h' := h.grown (World.grownBy_alloc w (.cells #[.pointer (some ⟨N, 0, none⟩)] 53) none)
  have hp : (w.alloc (.cells #[.pointer (some ⟨N, 0, none⟩)] 53)).cell? ⟨w.heap.size, 0, none⟩ = some (.pointer (some ⟨N, 0, none⟩)) := by simp
  have hg0 : w.grownBy (w.alloc (.cells #[.pointer (some ⟨N, 0, none⟩)] 53)) (some N) := World.grownBy_alloc w _ _
  rcases h' with ⟨h, h1, h2⟩ | h
  · have c7 := h.cell 7
    have f7 := h.frozen 7
    simp at c7
    have hadd := add64_any ⟨N, 7, none⟩ k _ c7 f7
    have hN := h.set_asked (wrap64 (k + 1))
    have hg1 := grownBy_set (w := w.alloc (.cells #[.pointer (some ⟨N, 0, none⟩)] 53)) N 7 (.int .i64 (wrap64 (k + 1)))
    have hb1 := below_of_grownBy (B := N) hg1 (by simp; omega) (Nat.le_refl _)
    have hp1 : ((w.alloc (.cells #[.pointer (some ⟨N, 0, none⟩)] 53)).setCell ⟨N, 7, none⟩ (.int .i64 (wrap64 (k + 1)))).cell? ⟨w.heap.size, 0, none⟩ = some (.pointer (some ⟨N, 0, none⟩)) := by
      rw [World.cell?_setCell_other _ _ _ _ (by intro e; injection e with e; omega)]; exact hp
    have hz1 : ((w.alloc (.cells #[.pointer (some ⟨N, 0, none⟩)] 53)).setCell ⟨N, 7, none⟩ (.int .i64 (wrap64 (k + 1)))).heap.size = w.heap.size + 1 := by simp [World.setCell]
    revert hN hg1 hb1 hp1 hz1
    generalize (w.alloc (.cells #[.pointer (some ⟨N, 0, none⟩)] 53)).setCell ⟨N, 7, none⟩ (.int .i64 (wrap64 (k + 1))) = w1 at hadd ⊢
    intro hN hg1 hb1 hp1 hz1
    have hdo := do_first N w.heap.size n c n' c' A A' ss ss' (wrap64 (k + 1)) _ hp1 (by omega) hN (h1.below hb1) (h2.below hb1) hn hn' hsz
    go_enter Tryd.func50, Tryd.ntmps50
    go_wp2_with (first | (go_at_call 62; refine hadd.mono ?_; rintro e w' ⟨rfl, rfl⟩) | (go_at_call 63; refine hdo.mono ?_; rintro e w2 ⟨rfl, ml, mc, hM, hml, hmc, o1, o2, hg2⟩))
    go_end0
    have hg3 := grownBy_trans hg0 (grownBy_trans hg1 hg2)
    have hb3 := below_of_grownBy (B := N) (grownBy_trans hg1 hg2) (by simp; omega) (Nat.le_refl _)
    exact ⟨rfl, ⟨h1.below hb3, h2.below hb3, ml, mc, hM, by omega, by omega, o1, o2⟩, hg3⟩
  · obtain ⟨h1, h2, ml, mc, h, hml, hmc, o1, o2⟩ := h
    have c7 := h.cell 7
    have f7 := h.frozen 7
    simp at c7
    have hadd := add64_any ⟨N, 7, none⟩ k _ c7 f7
    have hN := h.set_asked (wrap64 (k + 1))
    have hg1 := grownBy_set (w := w.alloc (.cells #[.pointer (some ⟨N, 0, none⟩)] 53)) N 7 (.int .i64 (wrap64 (k + 1)))
    have hb1 := below_of_grownBy (B := N) hg1 (by simp; omega) (Nat.le_refl _)
    have hp1 : ((w.alloc (.cells #[.pointer (some ⟨N, 0, none⟩)] 53)).setCell ⟨N, 7, none⟩ (.int .i64 (wrap64 (k + 1)))).cell? ⟨w.heap.size, 0, none⟩ = some (.pointer (some ⟨N, 0, none⟩)) := by
      rw [World.cell?_setCell_other _ _ _ _ (by intro e; injection e with e; omega)]; exact hp
    revert hN hg1 hb1 hp1
    generalize (w.alloc (.cells #[.pointer (some ⟨N, 0, none⟩)] 53)).setCell ⟨N, 7, none⟩ (.int .i64 (wrap64 (k + 1))) = w1 at hadd ⊢
    intro hN hg1 hb1 hp1
    have c2 := hN.cell 2
    simp at c2
    have hdo := fun fv => do_again N fv _ c2
    go_enter Tryd.func50, Tryd.ntmps50
    go_wp2_with (first | (go_at_call 62; refine hadd.mono ?_; rintro e w' ⟨rfl, rfl⟩) | (go_at_call 63; refine (hdo _).mono ?_; rintro e w2 ⟨rfl, rfl⟩))
    go_end0
    exact ⟨rfl, ⟨h1.below hb1, h2.below hb1, ml, mc, hN, hml, hmc, o1.kept hg1 (by simp; omega), o2.kept hg1 (by simp; omega)⟩, grownBy_trans hg0 hg1⟩
end Go.Proofs.YtkjiaklpffnhlaaDoor
