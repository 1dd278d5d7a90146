/-
  sync.Once, one goroutine, its lock free; and the counter of sync/atomic: what their calls come to, for whatever function is handed over.
-/
import Derived.Test.YtkjiaklpffnhlaaDoorAsk
import Derived.Defers
import Derived.Laws.LoneSync
import Derived.Laws.Pointers
import Derived.RegionTactic
import Derived.ChangeAlike
namespace Go.Proofs.YtkjiaklpffnhlaaDoor
open Go.RowKit Go.Maps

theorem race_off (w : World) : (callFunc 96 #[]).run Tryd.prog w = .ok (.value (.tuple #[])) w := run_call_mark0 Tryd.func96 (by kernel_rfl) (by kernel_rfl) (by kernel_rfl) .disable (by kernel_rfl) w
theorem race_on (w : World) : (callFunc 98 #[]).run Tryd.prog w = .ok (.value (.tuple #[])) w := run_call_mark0 Tryd.func98 (by kernel_rfl) (by kernel_rfl) (by kernel_rfl) .enable (by kernel_rfl) w
theorem race_got (a : Addr) (w : World) : (callFunc 99 #[.pointer (some a)]).run Tryd.prog w = .ok (.value (.tuple #[])) w := run_call_marked Tryd.func99 (by kernel_rfl) (by kernel_rfl) (by kernel_rfl) .acquire (by kernel_rfl) a w
theorem race_merged (a : Addr) (w : World) : (callFunc 101 #[.pointer (some a)]).run Tryd.prog w = .ok (.value (.tuple #[])) w := run_call_marked Tryd.func101 (by kernel_rfl) (by kernel_rfl) (by kernel_rfl) .releaseMerge (by kernel_rfl) a w

theorem add64_any (a : Addr) (x : Int) (w : World) (hc : w.cell? a = some (.int .i64 x)) (hz : w.frozen? a = false) :
    Calls Tryd.prog 62 #[.pointer (some a), .int .i64 1] w fun e w' => e = .returned (.int .i64 (wrap64 (x + 1))) ∧ w' = w.setCell a (.int .i64 (wrap64 (x + 1))) := by
  have hadd := run_call_add (P := Tryd.prog) Tryd.func71 (by kernel_rfl) (by kernel_rfl) (by kernel_rfl) .i64 (by kernel_rfl) (y := 1) (s := wrap64 (x + 1)) hc hz (by simp [go_sem]; unfold wrap64; exact IntKind.wrap_i64 _)
  go_enter Tryd.func62, Tryd.ntmps62
  go_wp2
  go_ret
  exact ⟨rfl, rfl⟩

theorem load64_any (a : Addr) (x : Int) (w : World) (hc : w.cell? a = some (.int .i64 x)) :
    Calls Tryd.prog 51 #[.pointer (some a)] w fun e w' => e = .returned (.int .i64 x) ∧ w' = w := by
  have hl := run_call_load (P := Tryd.prog) Tryd.func66 (by kernel_rfl) (by kernel_rfl) (by kernel_rfl) .i64 (by kernel_rfl) hc
  go_enter Tryd.func51, Tryd.ntmps51
  go_wp2
  go_ret
  exact ⟨rfl, rfl⟩

theorem bool_no (a : Addr) (w : World) (hc : w.cell? a = some (.int .u32 0)) : Calls Tryd.prog 72 #[.pointer (some a)] w fun e w' => e = .returned (.bool false) ∧ w' = w := by
  have hl := run_call_load (P := Tryd.prog) Tryd.func78 (by kernel_rfl) (by kernel_rfl) (by kernel_rfl) .u32 (by kernel_rfl) hc
  go_enter Tryd.func72, Tryd.ntmps72
  go_wp2
  go_ret
  exact ⟨rfl, rfl⟩
theorem bool_yes (a : Addr) (w : World) (hc : w.cell? a = some (.int .u32 1)) : Calls Tryd.prog 72 #[.pointer (some a)] w fun e w' => e = .returned (.bool true) ∧ w' = w := by
  have hl := run_call_load (P := Tryd.prog) Tryd.func78 (by kernel_rfl) (by kernel_rfl) (by kernel_rfl) .u32 (by kernel_rfl) hc
  go_enter Tryd.func72, Tryd.ntmps72
  go_wp2
  go_ret
  exact ⟨rfl, rfl⟩

theorem store_later (a : Addr) (x : Value) (u : FrameMode) (w : World) (hc : w.cell? a = some x) (hz : w.frozen? a = false) :
    CallsD Tryd.prog 81 #[.pointer (some a), .bool true] u w fun e u' w' => u' = u ∧ (e = .returned (.tuple #[]) ∧ w' = w.drew.setCell a (.int .u32 1)) := by
  have hc' : w.drew.cell? a = some x := by go_simp
  have hz' : w.drew.frozen? a = false := by go_simp
  have hst := run_call_store (P := Tryd.prog) Tryd.func91 (by kernel_rfl) (by kernel_rfl) (by kernel_rfl) (by kernel_rfl) (k := .u32) (y := 1) hc' hz'
  go_enter_d Tryd.func81, Tryd.ntmps81
  go_wp2
  go_region_calls
  all_goals (go_end0; exact ⟨rfl, rfl⟩)

set_option maxRecDepth 100000 in
set_option maxHeartbeats 1600000 in
theorem unlock_later (a : Addr) (u : FrameMode) (w : World) (hc : w.cell? a = some (.int .i32 1)) (hz : w.frozen? a = false) :
    CallsD Tryd.prog 80 #[.pointer (some a)] u w fun e u' w' => u' = u ∧ (e = .returned (.tuple #[]) ∧ w' = w.setCell a (.int .i32 0)) := by
  have h1 := race_off
  have h2 := race_on
  have h3 := race_merged
  have h4 := run_call_add (P := Tryd.prog) Tryd.func102 (by kernel_rfl) (by kernel_rfl) (by kernel_rfl) .i32 (by kernel_rfl) (y := -1) (s := 0) hc hz (by simp [go_sem]; rfl)
  have h5 := run_convert_to_unsafe (P := Tryd.prog) (src := 144) (dst := 126) Tryd.underlying144 Tryd.underlying126 (by kernel_rfl) hc
  go_enter_d Tryd.func80, Tryd.ntmps80
  go_wp2
  go_end0
  go_wp2
  go_end0
  exact ⟨rfl, rfl⟩

set_option maxRecDepth 100000 in
set_option maxHeartbeats 1600000 in
theorem lock_any (a : Addr) (w : World) (hc : w.cell? a = some (.int .i32 0)) (hz : w.frozen? a = false) :
    Calls Tryd.prog 79 #[.pointer (some a)] w fun e w' => e = .returned (.tuple #[]) ∧ w' = w.setCell a (.int .i32 1) := by
  have h1 := race_off
  have h2 := race_on
  have h3 := race_got
  have h4 := run_call_cas_hit (P := Tryd.prog) Tryd.func97 (by kernel_rfl) (by kernel_rfl) (by kernel_rfl) .i32 (by kernel_rfl) (y := 1) hc hz
  have hc' : (w.setCell a (.int .i32 1)).cell? a = some (.int .i32 1) := World.cell?_setCell_same w a _ hc
  have h5 := run_convert_to_unsafe (P := Tryd.prog) (src := 144) (dst := 126) Tryd.underlying144 Tryd.underlying126 (by kernel_rfl) hc'
  go_enter Tryd.func79, Tryd.ntmps79
  go_wp2
  first | go_end0 | (simp only [Exit.inBlock, Exit.then]; refine bodyPost_ret (results_none rfl _ _ _) rfl ?_) | refine bodyPost_ret (results_none rfl _ _ _) rfl ?_
  go_wp2
  go_end0
  exact ⟨rfl, rfl⟩

set_option maxRecDepth 100000 in
set_option maxHeartbeats 1600000 in
/-- sync.Once's slow road for the object's tables, not made yet. -/
theorem slow_any (N pl n c n' c' : Nat) (A A' : Option Addr) (ss ss' : List ByteArray) (k : Int) (w : World) (hpl : w.cell? ⟨pl, 0, none⟩ = some (.pointer (some ⟨N, 0, none⟩))) (hne : N ≠ pl)
    (h : NamesIn w N n c n' c' A A' 0 0 none none k) (h1 : Strs w N A n c ss) (h2 : Strs w N A' n' c' ss') (hn : n ≤ 1000) (hn' : n' ≤ 1000) (hsz : ∀ s ∈ ss ++ ss', s.size ≤ maxLen) :
    Calls Tryd.prog 73 #[.pointer (some ⟨N, 2, none⟩), .func (.func 64) #[] #[.pointer (some ⟨pl, 0, none⟩)]] w fun e w' => e = .returned (.tuple #[]) ∧ ∃ ml mc, NamesIn w' N n c n' c' A A' 1 0 (some ml) (some mc) k ∧ w.heap.size ≤ ml ∧ ml < mc ∧
      w'.ownsMap Tryd.prog 9 (plainElem (H := Unit) Tryd.prog 3) ml n (tabK ss ss.length) ∧ w'.ownsMap Tryd.prog 9 (plainElem (H := Unit) Tryd.prog 3) mc n' (tabK ss' ss'.length) ∧ w.grownBy w' (some N) := by
  have hL := h.set_lock 1
  have hpl1 : (w.setCell ⟨N, 3, none⟩ (.int .i32 1)).cell? ⟨pl, 0, none⟩ = some (.pointer (some ⟨N, 0, none⟩)) := by
    rw [World.cell?_setCell_other _ _ _ _ (by intro e; injection e with e; exact hne e)]; exact hpl
  have hg1 : w.grownBy (w.setCell ⟨N, 3, none⟩ (.int .i32 1)) (some N) := grownBy_set N 3 _
  have hb1 : Below N w (w.setCell ⟨N, 3, none⟩ (.int .i32 1)) := below_of_grownBy hg1 (by have := h.lt; omega) (Nat.le_refl _)
  have hz1 : (w.setCell ⟨N, 3, none⟩ (.int .i32 1)).heap.size = w.heap.size := by simp [World.setCell]
  have c3 := h.cell 3
  have f3 := h.frozen 3
  simp at c3
  revert hL hpl1 hg1 hb1 hz1
  have hlock := lock_any ⟨N, 3, none⟩ w c3 f3
  generalize w.setCell ⟨N, 3, none⟩ (.int .i32 1) = w1 at hlock ⊢
  intro hL hpl1 hg1 hb1 hz1
  have c2 := hL.cell 2
  simp at c2
  have hl := bool_no ⟨N, 2, none⟩ w1 c2
  have hask := ask1_any N pl n c n' c' A A' ss ss' 0 1 k w1 hpl1 hne hL (h1.below hb1) (h2.below hb1) hn hn' hsz
  have hnot : ∀ (x : Bool) (w : World), (Op.unary .not (.bool x)).run Tryd.prog w = .ok (.bool (!x)) w := fun _ _ => rfl
  go_enter_defers Tryd.func73, Tryd.ntmps73
  go_wp2_with (first | (go_at_call 79; refine hlock.mono ?_; rintro e w' ⟨rfl, rfl⟩) | (go_at_call 72; refine hl.mono ?_; rintro e w' ⟨rfl, rfl⟩) | (go_at_call 64; refine hask.mono ?_; rintro e w2 ⟨rfl, ml, mc, hN, hml, hmc, ho1, ho2, hg2⟩))
  go_wp2
  have q2 := hN.cell 2
  have r2 := hN.frozen 2
  simp at q2
  refine leaves_cons (f := 81) (args := #[.pointer (some ⟨N, 2, none⟩), .bool true]) (by simp) (by simp [go_sem]) ?_
  refine (store_later ⟨N, 2, none⟩ (.int .u32 0) .returning _ q2 r2).mono ?_
  rintro e u' w3 ⟨rfl, rfl, rfl⟩
  have hN3 : NamesIn (w2.drew.setCell ⟨N, 2, none⟩ (.int .u32 1)) N n c n' c' A A' 1 1 (some ml) (some mc) k := NamesIn.set_done (w := w2.drew) hN 1
  have hg3 : w2.grownBy (w2.drew.setCell ⟨N, 2, none⟩ (.int .u32 1)) (some N) := grownBy_trans (grownBy_drew w2 _) (grownBy_set N 2 _)
  have hlt := h.lt
  have o1 := ho1.drew.setCell (a := ⟨N, 2, none⟩) (by simp; omega) (.int .u32 1)
  have o2 := ho2.drew.setCell (a := ⟨N, 2, none⟩) (by simp; omega) (.int .u32 1)
  revert hN3 hg3 o1 o2
  generalize w2.drew.setCell ⟨N, 2, none⟩ (.int .u32 1) = w3
  intro hN3 hg3 o1 o2
  have q3 := hN3.cell 3
  have r3 := hN3.frozen 3
  simp at q3
  refine leaves_cons (f := 80) (args := #[.pointer (some ⟨N, 3, none⟩)]) (by simp [settle]) (by simp [go_sem]) ?_
  refine (unlock_later ⟨N, 3, none⟩ _ _ q3 r3).mono ?_
  rintro e u' w4 ⟨rfl, rfl, rfl⟩
  simp only [Leaves, settle]
  refine ⟨_, results_none rfl _ _ _, rfl, ml, mc, hN3.set_lock 0, by omega, hmc, o1.setCell (by simp; omega) _, o2.setCell (by simp; omega) _, grownBy_trans hg1 (grownBy_trans hg2 (grownBy_trans hg3 (grownBy_set N 3 _)))⟩

theorem do_first (N pl n c n' c' : Nat) (A A' : Option Addr) (ss ss' : List ByteArray) (k : Int) (w : World) (hpl : w.cell? ⟨pl, 0, none⟩ = some (.pointer (some ⟨N, 0, none⟩))) (hne : N ≠ pl)
    (h : NamesIn w N n c n' c' A A' 0 0 none none k) (h1 : Strs w N A n c ss) (h2 : Strs w N A' n' c' ss') (hn : n ≤ 1000) (hn' : n' ≤ 1000) (hsz : ∀ s ∈ ss ++ ss', s.size ≤ maxLen) :
    Calls Tryd.prog 63 #[.pointer (some ⟨N, 2, none⟩), .func (.func 64) #[] #[.pointer (some ⟨pl, 0, none⟩)]] w fun e w' => e = .returned (.tuple #[]) ∧ ∃ ml mc, NamesIn w' N n c n' c' A A' 1 0 (some ml) (some mc) k ∧ w.heap.size ≤ ml ∧ ml < mc ∧
      w'.ownsMap Tryd.prog 9 (plainElem (H := Unit) Tryd.prog 3) ml n (tabK ss ss.length) ∧ w'.ownsMap Tryd.prog 9 (plainElem (H := Unit) Tryd.prog 3) mc n' (tabK ss' ss'.length) ∧ w.grownBy w' (some N) := by
  have c2 := h.cell 2
  simp at c2
  have hl := bool_no ⟨N, 2, none⟩ w c2
  have hs := slow_any N pl n c n' c' A A' ss ss' k w hpl hne h h1 h2 hn hn' hsz
  have hnot : ∀ (x : Bool) (w : World), (Op.unary .not (.bool x)).run Tryd.prog w = .ok (.bool (!x)) w := fun _ _ => rfl
  go_enter Tryd.func63, Tryd.ntmps63
  go_wp2_with (first | (go_at_call 72; refine hl.mono ?_; rintro e w' ⟨rfl, rfl⟩) | (go_at_call 73; refine hs.mono ?_; rintro e w' ⟨rfl, hw⟩))
  go_end0
  exact ⟨rfl, hw⟩

theorem do_again (N : Nat) (fv : Value) (w : World) (c2 : w.cell? ⟨N, 2, none⟩ = some (.int .u32 1)) :
    Calls Tryd.prog 63 #[.pointer (some ⟨N, 2, none⟩), fv] w fun e w' => e = .returned (.tuple #[]) ∧ w' = w := by
  have hl := bool_yes ⟨N, 2, none⟩ w c2
  have hnot : ∀ (x : Bool) (w : World), (Op.unary .not (.bool x)).run Tryd.prog w = .ok (.bool (!x)) w := fun _ _ => rfl
  go_enter Tryd.func63, Tryd.ntmps63
  go_wp2_with (first | (go_at_call 72; refine hl.mono ?_; rintro e w' ⟨rfl, rfl⟩))
  go_end0
  exact ⟨rfl, rfl⟩
end Go.Proofs.YtkjiaklpffnhlaaDoor
