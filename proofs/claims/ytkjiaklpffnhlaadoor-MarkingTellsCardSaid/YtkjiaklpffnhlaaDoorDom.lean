/-
  What lattice.Dominates, Join and Meet come to, for any labels, in any memory: told by a plain function each. No condition.
-/
import Derived.Test.YtkjiaklpffnhlaaDoorRows
import Derived.WalkKit
import Derived.WalkSpells
import Derived.WalkLawsBesides
namespace Go.Proofs.YtkjiaklpffnhlaaDoor
open Go.RowKit

/-- Whether the label (la, ca) dominates (lb, cb), as the code asks it. -/
def domB (la ca lb cb : Int) : Bool := decide (lb ≤ la) && (bits .andNot .u64 cb ca == 0)
def maxI (a b : Int) : Int := if a < b then b else a
def minI (a b : Int) : Int := if b < a then b else a

set_option maxHeartbeats 400000 in
theorem dom_any (la ca lb cb : Int) (w : World) :
    Calls Tryd.prog 20 #[.agg #[.int .i64 la, .int .u64 ca], .agg #[.int .i64 lb, .int .u64 cb]] w fun e w' => e = .returned (.bool (domB la ca lb cb)) ∧ Below w.heap.size w w' := by
  by_cases h : lb ≤ la
  · have hd : domB la ca lb cb = (bits .andNot .u64 cb ca == 0) := by simp [domB, h]
    rw [hd]
    clear hd
    go_enter Tryd.func20, Tryd.ntmps20
    go_wp2
    go_ret
    exact ⟨rfl, ((Below.refl _ _).alloc (Nat.le_refl _) _).alloc (by simp) _⟩
  · have hd : domB la ca lb cb = false := by simp [domB, h]
    rw [hd]
    clear hd
    go_enter Tryd.func20, Tryd.ntmps20
    go_wp2
    go_ret
    exact ⟨rfl, ((Below.refl _ _).alloc (Nat.le_refl _) _).alloc (by simp) _⟩

set_option maxHeartbeats 400000 in
theorem join_any (la ca lb cb : Int) (w : World) :
    Calls Tryd.prog 22 #[.agg #[.int .i64 la, .int .u64 ca], .agg #[.int .i64 lb, .int .u64 cb]] w fun e w' => e = .returned (.agg #[.int .i64 (maxI la lb), .int .u64 (bits .or .u64 ca cb)]) ∧ Below w.heap.size w w' := by
  by_cases h : la < lb
  · have hd : maxI la lb = lb := if_pos h
    rw [hd]
    clear hd
    go_enter Tryd.func22, Tryd.ntmps22
    go_wp2
    exact bodyPost_ret (by simp [results, Tryd.results22, go_sem]) rfl ⟨rfl, (((Below.refl _ _).alloc (Nat.le_refl _) _).alloc (by simp) _).alloc (by simp; omega) _⟩
  · have hd : maxI la lb = la := if_neg h
    rw [hd]
    clear hd
    go_enter Tryd.func22, Tryd.ntmps22
    go_wp2
    exact bodyPost_ret (by simp [results, Tryd.results22, go_sem]) rfl ⟨rfl, (((Below.refl _ _).alloc (Nat.le_refl _) _).alloc (by simp) _).alloc (by simp; omega) _⟩
set_option maxHeartbeats 400000 in
theorem meet_any (la ca lb cb : Int) (w : World) :
    Calls Tryd.prog 24 #[.agg #[.int .i64 la, .int .u64 ca], .agg #[.int .i64 lb, .int .u64 cb]] w fun e w' => e = .returned (.agg #[.int .i64 (minI la lb), .int .u64 (bits .and .u64 ca cb)]) ∧ Below w.heap.size w w' := by
  by_cases h : lb < la
  · have hd : minI la lb = lb := if_pos h
    rw [hd]
    clear hd
    go_enter Tryd.func24, Tryd.ntmps24
    go_wp2
    exact bodyPost_ret (by simp [results, Tryd.results24, go_sem]) rfl ⟨rfl, (((Below.refl _ _).alloc (Nat.le_refl _) _).alloc (by simp) _).alloc (by simp; omega) _⟩
  · have hd : minI la lb = la := if_neg h
    rw [hd]
    clear hd
    go_enter Tryd.func24, Tryd.ntmps24
    go_wp2
    exact bodyPost_ret (by simp [results, Tryd.results24, go_sem]) rfl ⟨rfl, (((Below.refl _ _).alloc (Nat.le_refl _) _).alloc (by simp) _).alloc (by simp; omega) _⟩
end Go.Proofs.YtkjiaklpffnhlaaDoor
