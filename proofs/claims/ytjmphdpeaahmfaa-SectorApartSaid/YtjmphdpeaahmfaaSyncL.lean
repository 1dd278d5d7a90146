/-
  The counter of sync/atomic read, one goroutine: what its call comes to, wherever it lies.
-/
import Derived.Test.YtjmphdpeaahmfaaSyncA
namespace Go.Proofs.Ytjmphdpeaahmfaa
open Go.RowKit Go.Maps

theorem load64_any (a : Addr) (x : Int) (w : World) (hc : w.cell? a = some (.int .i64 x)) :
    Calls Try.prog 30 #[.pointer (some a)] w fun e w' => e = .returned (.int .i64 x) ∧ w' = w := by
  have hl := run_call_load (P := Try.prog) Try.func33 (by kernel_rfl) (by kernel_rfl) (by kernel_rfl) .i64 (by kernel_rfl) hc
  go_enter Try.func30, Try.ntmps30
  go_wp2
  go_ret
  exact ⟨rfl, rfl⟩

end Go.Proofs.Ytjmphdpeaahmfaa
