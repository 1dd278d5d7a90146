/-
  What lattice.has comes to, for any lengths and any label, in any memory.
-/
import Derived.Test.YtkjiaklpffnhlaaDoorRows
import Derived.WalkKit
import Derived.WalkSpells
import Derived.WalkLawsBesides
import Derived.Lib.Hide
namespace Go.Proofs.YtkjiaklpffnhlaaDoor
open Go.RowKit

/-- Is (l, k) a label of so many levels and compartments? -/
def hasB (n n' : Nat) (l k : Int) : Bool := decide (0 ≤ l) && decide (l < n) && (k / 2 ^ min n' 64 == 0)

set_option maxHeartbeats 400000 in
theorem has_any (n c n' c' : Nat) (A A' : Option Addr) (l k : Int) (w : World) :
    Calls Tryd.prog 46 #[.agg #[.slice A n c, .slice A' n' c'], .agg #[.int .i64 l, .int .u64 k]] w fun e w' => e = .returned (.bool (hasB n n' l k)) ∧ Below w.heap.size w w' := by
  by_cases h1 : 0 ≤ l
  · by_cases h2 : l < n
    · have hd : hasB n n' l k = (k / 2 ^ min n' 64 == 0) := by simp [hasB, h1, h2]
      rw [hd]
      clear hd
      go_enter Tryd.func46, Tryd.ntmps46
      go_wp2
      go_ret
      exact ⟨rfl, ((Below.refl _ _).alloc (Nat.le_refl _) _).alloc (by simp) _⟩
    · have hd : hasB n n' l k = false := by simp [hasB, h2]
      rw [hd]
      clear hd
      go_enter Tryd.func46, Tryd.ntmps46
      go_wp2
      go_ret
      exact ⟨rfl, ((Below.refl _ _).alloc (Nat.le_refl _) _).alloc (by simp) _⟩
  · have hd : hasB n n' l k = false := by simp [hasB, h1]
    rw [hd]
    clear hd
    go_enter Tryd.func46, Tryd.ntmps46
    go_wp2
    go_ret
    exact ⟨rfl, ((Below.refl _ _).alloc (Nat.le_refl _) _).alloc (by simp) _⟩
end Go.Proofs.YtkjiaklpffnhlaaDoor
