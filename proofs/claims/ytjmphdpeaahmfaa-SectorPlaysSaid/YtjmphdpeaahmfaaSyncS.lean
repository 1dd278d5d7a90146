/-
  The counter of sync/atomic set, one goroutine: what its call comes to, wherever it lies.
-/
import Derived.Test.YtjmphdpeaahmfaaSyncA
namespace Go.Proofs.Ytjmphdpeaahmfaa
open Go.RowKit Go.Maps

theorem store64_any (a : Addr) (x y : Int) (w : World) (hc : w.cell? a = some (.int .i64 x)) (hz : w.frozen? a = false) :
    Calls Try.prog 29 #[.pointer (some a), .int .i64 y] w fun e w' => e = .returned (.tuple #[]) ∧ w' = w.setCell a (.int .i64 y) := by
  have hs := run_call_store (P := Try.prog) Try.func32 (by kernel_rfl) (by kernel_rfl) (by kernel_rfl) (by kernel_rfl) (k := .i64) (y := y) hc hz
  go_enter Try.func29, Try.ntmps29
  go_wp2
  (first | go_end0 | (simp only [Exit.inBlock, Exit.then]; refine bodyPost_ret (results_none rfl _ _ _) rfl ?_) | refine bodyPost_ret (results_none rfl _ _ _) rfl ?_)
  exact ⟨rfl, rfl⟩

end Go.Proofs.Ytjmphdpeaahmfaa
