/-
  A book of levels' room in memory; its calls that ask.
-/
import Derived.Test.YtihbfkiofdancaaQuA
import Derived.Test.YtihbfkiofdancaaTurnQ
import Derived.BigQuiet
import Derived.LoopIn
import Derived.Deep.LoopGhost
namespace Go.Proofs.Ytihbfkiofdancaa
open Go.RowKit Go.Maps

/-- A book in the block N: of n levels, their bounds, and what is taken of each. -/
structure BookAt (w : World) (N n : Nat) (bo ta : Nat → Int) : Prop where
  n1 : 1 ≤ n
  n16 : n ≤ 16
  mem : ∃ cs, w.heap[N]? = some (.cells cs 52 (0, 0)) ∧ cs.size = 33 ∧ cs[32]? = some (.int .i64 (n : Int)) ∧ ∀ i, i < n → cs[i * 2]? = some (.int .i64 (bo i)) ∧ cs[i * 2 + 1]? = some (.int .i64 (ta i))
  ok : ∀ i, i < n → 0 ≤ ta i ∧ ta i ≤ bo i ∧ bo i ≤ 1099511627776

section
variable {w w' : World} {N n : Nat} {bo ta : Nat → Int}
theorem BookAt.lt (h : BookAt w N n bo ta) : N < w.heap.size := by
  obtain ⟨cs, h1, _⟩ := h.mem
  exact (Array.getElem?_eq_some_iff.1 h1).1
theorem BookAt.keep {S : Nat → Prop} (h : BookAt w N n bo ta) (t : Turned S w w') (hs : ¬ S N) : BookAt w' N n bo ta := by
  obtain ⟨cs, h1, h2⟩ := h.mem
  exact ⟨h.n1, h.n16, ⟨cs, t.heap h1 hs, h2⟩, h.ok⟩
theorem BookAt.below (h : BookAt w N n bo ta) (hb : Below w.heap.size w w') : BookAt w' N n bo ta := h.keep (S := fun _ => False) (Turned.of_below hb (Nat.le_refl _)) id
theorem BookAt.cells (h : BookAt w N n bo ta) : w.cell? ⟨N, 32, none⟩ = some (.int .i64 (n : Int)) ∧ (∀ i, i < n → w.cell? ⟨N, i * 2, none⟩ = some (.int .i64 (bo i)) ∧ w.cell? ⟨N, i * 2 + 1, none⟩ = some (.int .i64 (ta i))) ∧ ∀ j, w.frozen? ⟨N, j, none⟩ = false := by
  obtain ⟨cs, h1, h2, h3, h4⟩ := h.mem
  refine ⟨by rw [Lib.cell_of_heap h1]; exact h3, fun i hi => ?_, fun j => Lib.frozen_of_heap h1 j⟩
  obtain ⟨a, b⟩ := h4 i hi
  exact ⟨by rw [Lib.cell_of_heap h1]; exact a, by rw [Lib.cell_of_heap h1]; exact b⟩
/-- What one level has taken is set. -/
theorem BookAt.set (h : BookAt w N n bo ta) {i : Nat} (_hi : i < n) (x : Int) (hx0 : 0 ≤ x) (hx : x ≤ bo i) : BookAt (w.setCell ⟨N, i * 2 + 1, none⟩ (.int .i64 x)) N n bo (fun j => if j = i then x else ta j) := by
  obtain ⟨cs, h1, h2, h3, h4⟩ := h.mem
  have hn := h.n16
  refine ⟨h.n1, h.n16, ⟨cs.setIfInBounds (i * 2 + 1) (.int .i64 x), set_block h1, by rw [Array.size_setIfInBounds]; exact h2, ?_, fun j hj => ⟨?_, ?_⟩⟩, fun j hj => ?_⟩
  · rw [Array.getElem?_setIfInBounds_ne (by omega)]; exact h3
  · rw [Array.getElem?_setIfInBounds_ne (by omega)]; exact (h4 j hj).1
  · by_cases e : j = i
    · subst e
      rw [if_pos rfl, Array.getElem?_setIfInBounds_self_of_lt (by omega)]
    · rw [if_neg e, Array.getElem?_setIfInBounds_ne (by omega)]
      exact (h4 j hj).2
  · by_cases e : j = i
    · subst e
      simp only [if_pos]
      exact ⟨hx0, hx, (h.ok j hj).2.2⟩
    · simp only [if_neg e]
      exact h.ok j hj
end

/-- Is there such a level? -/
def hasQ (n : Nat) (l : Int) : Bool := decide (0 ≤ l ∧ l < n)
def checkQ (n : Nat) (l m : Int) : Int := if hasQ n l = true then (if m < 0 then 1 else 0) else 4
def takenQ (n : Nat) (ta : Nat → Int) (l : Int) : Int := if hasQ n l = true then ta l.toNat else 0
def leftQ (n : Nat) (bo ta : Nat → Int) (l : Int) : Int := if hasQ n l = true then bo l.toNat - ta l.toNat else 0
/-- What is taken in all of the first k levels. -/
def sumQ (ta : Nat → Int) : Nat → Int
  | 0 => 0
  | k + 1 => sumQ ta k + ta k
theorem sumQ_range {ta : Nat → Int} {n : Nat} (h : ∀ i, i < n → 0 ≤ ta i ∧ ta i ≤ 1099511627776) : ∀ k, k ≤ n → 0 ≤ sumQ ta k ∧ sumQ ta k ≤ k * 1099511627776
  | 0, _ => ⟨by simp [sumQ], by simp [sumQ]⟩
  | k + 1, hk => by
    have := sumQ_range h k (by omega)
    have := h k (by omega)
    simp only [sumQ]
    omega

set_option maxRecDepth 100000 in
theorem qhas_any (N n : Nat) (bo ta : Nat → Int) (w : World) (h : BookAt w N n bo ta) (l : Int) :
    Calls Try.prog 23 #[.pointer (some ⟨N, 0, none⟩), .int .i64 l] w fun e w' => e = .returned (.bool (hasQ n l)) ∧ w' = w := by
  obtain ⟨c0, _, _⟩ := h.cells
  by_cases h0 : 0 ≤ l
  · by_cases h1 : l < n
    · rw [show hasQ n l = true from decide_eq_true ⟨h0, h1⟩]
      clear h
      go_enter Try.func23, Try.ntmps23
      go_wp2
      go_ret
      exact ⟨rfl, rfl⟩
    · rw [show hasQ n l = false from decide_eq_false (fun h => h1 h.2)]
      clear h
      go_enter Try.func23, Try.ntmps23
      go_wp2
      go_ret
      exact ⟨rfl, rfl⟩
  · rw [show hasQ n l = false from decide_eq_false (fun h => h0 h.1)]
    clear h
    go_enter Try.func23, Try.ntmps23
    go_wp2
    go_ret
    exact ⟨rfl, rfl⟩

set_option maxRecDepth 100000 in
theorem qcheck_any (N n : Nat) (bo ta : Nat → Int) (w : World) (h : BookAt w N n bo ta) (l m : Int) :
    Calls Try.prog 18 #[.pointer (some ⟨N, 0, none⟩), .int .i64 l, .int .i64 m] w fun e w' => e = .returned (.int .i64 (checkQ n l m)) ∧ w' = w := by
  have hh := qhas_any N n bo ta w h l
  unfold checkQ
  clear h
  generalize hasQ n l = b at hh ⊢
  cases b with
  | false =>
    rw [if_neg (show ¬ (false = true) by simp)]
    go_enter Try.func18, Try.ntmps18
    go_wp2_with (go_at_call 23; refine hh.mono ?_; rintro e w' ⟨rfl, rfl⟩)
    go_ret
    exact ⟨rfl, rfl⟩
  | true =>
    rw [if_pos (show true = true from rfl)]
    by_cases hm : m < 0
    · rw [if_pos hm]
      go_enter Try.func18, Try.ntmps18
      go_wp2_with (go_at_call 23; refine hh.mono ?_; rintro e w' ⟨rfl, rfl⟩)
      go_ret
      exact ⟨rfl, rfl⟩
    · rw [if_neg hm]
      go_enter Try.func18, Try.ntmps18
      go_wp2_with (go_at_call 23; refine hh.mono ?_; rintro e w' ⟨rfl, rfl⟩)
      go_ret
      exact ⟨rfl, rfl⟩

set_option maxRecDepth 100000 in
theorem qtaken_any (N n : Nat) (bo ta : Nat → Int) (w : World) (h : BookAt w N n bo ta) (l : Int) :
    Calls Try.prog 15 #[.pointer (some ⟨N, 0, none⟩), .int .i64 l] w fun e w' => e = .returned (.int .i64 (takenQ n ta l)) ∧ w' = w := by
  have hh := qhas_any N n bo ta w h l
  unfold takenQ
  by_cases hl : hasQ n l = true
  · rw [if_pos hl]
    rw [hl] at hh
    obtain ⟨hl0, hl1⟩ := of_decide_eq_true hl
    obtain ⟨i, rfl⟩ : ∃ i : Nat, l = i := ⟨l.toNat, by omega⟩
    have hi : i < n := by omega
    have hn := h.n16
    obtain ⟨_, c, _⟩ := h.cells
    have hc := (c i hi).2
    have ho := h.ok i hi
    rw [Int.toNat_natCast]
    generalize ta i = x at hc ho ⊢
    have hld := load64_q _ _ w hc
    clear h c hl hl0 hl1
    go_enter Try.func15, Try.ntmps15
    go_wp2_with (first | (go_at_call 23; refine hh.mono ?_; rintro e w' ⟨rfl, rfl⟩) | (go_at_call 22; refine hld.mono ?_; rintro e w' ⟨rfl, rfl⟩))
    go_ret
    exact ⟨rfl, rfl⟩
  · rw [if_neg hl]
    rw [Bool.not_eq_true] at hl
    rw [hl] at hh
    clear h
    go_enter Try.func15, Try.ntmps15
    go_wp2_with (go_at_call 23; refine hh.mono ?_; rintro e w' ⟨rfl, rfl⟩)
    go_ret
    exact ⟨rfl, rfl⟩
end Go.Proofs.Ytihbfkiofdancaa
