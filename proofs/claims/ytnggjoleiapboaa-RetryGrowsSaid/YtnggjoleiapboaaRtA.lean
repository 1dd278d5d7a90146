/-
  Turns of messages: times, right ones, new ones, those that may be tried: plainly, and what the program's calls come to.
-/
import Derived.Test.YtnggjoleiapboaaRows
import Derived.WalkKit
import Derived.WalkSpells
import Derived.WalkLawsBesides
import Derived.RegionTactic
import Derived.ChangeAlike
import Derived.Below
import Derived.Deep.QuietTactic
import Derived.BigQuiet
import Derived.Lib.Hide
namespace Go.Proofs.Ytnggjoleiapboaa
open Go.RowKit

def timeT (n : Int) : Bool := decide (0 ≤ n) && decide (n ≤ 1099511627776)
def rightT (b t d : Int) : Bool := timeT b && (timeT d && (decide (b ≤ d) && (decide (0 ≤ t) && decide (t < 5))))
def readyT (b t d now : Int) : Bool := rightT b t d && decide (d ≤ now)
abbrev turnV (b t d : Int) : Value := .agg #[.int .i64 b, .int .i64 t, .int .i64 d]

set_option maxRecDepth 100000 in
theorem istime_any (n : Int) (w : World) : Calls Try.prog 16 #[.int .i64 n] w fun e w' => e = .returned (.bool (timeT n)) ∧ w' = w := by
  unfold timeT
  by_cases h0 : 0 ≤ n
  · by_cases h1 : n ≤ 1099511627776
    · rw [decide_eq_true h0, decide_eq_true h1]
      go_enter Try.func16, Try.ntmps16
      go_wp2
      go_ret
      exact ⟨rfl, rfl⟩
    · rw [decide_eq_true h0, decide_eq_false h1]
      go_enter Try.func16, Try.ntmps16
      go_wp2
      go_ret
      exact ⟨rfl, rfl⟩
  · rw [decide_eq_false h0]
    go_enter Try.func16, Try.ntmps16
    go_wp2
    go_ret
    exact ⟨rfl, rfl⟩
theorem istime_at {n : Int} {b : Bool} (h : timeT n = b) (w : World) : Calls Try.prog 16 #[.int .i64 n] w fun e w' => e = .returned (.bool b) ∧ w' = w := h ▸ istime_any n w

set_option maxRecDepth 100000 in
theorem rright_any (b t d : Int) (w : World) : Calls Try.prog 13 #[turnV b t d] w fun e w' => e = .returned (.bool (rightT b t d)) ∧ Below w.heap.size w w' := by
  unfold rightT
  have hb := istime_any b
  have hd := istime_any d
  obtain ⟨p, hp⟩ : ∃ p, timeT b = p := ⟨_, rfl⟩
  obtain ⟨q, hq⟩ : ∃ q, timeT d = q := ⟨_, rfl⟩
  rw [hp] at hb ⊢
  rw [hq] at hd ⊢
  clear hp hq
  cases p with
  | false =>
    go_enter Try.func13, Try.ntmps13
    go_wp2_with (go_at_call 16; refine (hb _).mono ?_; rintro e w' ⟨rfl, rfl⟩)
    go_ret
    exact ⟨rfl, (Below.refl _ _).alloc (Nat.le_refl _) _⟩
  | true =>
    cases q with
    | false =>
      go_enter Try.func13, Try.ntmps13
      go_wp2_with fail
      refine (hb _).mono ?_
      rintro e w' ⟨rfl, rfl⟩
      go_wp2_with fail
      refine (hd _).mono ?_
      rintro e w' ⟨rfl, rfl⟩
      go_wp2
      go_ret
      exact ⟨rfl, (Below.refl _ _).alloc (Nat.le_refl _) _⟩
    | true =>
      by_cases h1 : b ≤ d
      · by_cases h2 : 0 ≤ t
        · rw [decide_eq_true h1, decide_eq_true h2]
          go_enter Try.func13, Try.ntmps13
          go_wp2_with fail
          refine (hb _).mono ?_
          rintro e w' ⟨rfl, rfl⟩
          go_wp2_with fail
          refine (hd _).mono ?_
          rintro e w' ⟨rfl, rfl⟩
          go_wp2
          go_ret
          exact ⟨rfl, (Below.refl _ _).alloc (Nat.le_refl _) _⟩
        · rw [decide_eq_true h1, decide_eq_false h2]
          go_enter Try.func13, Try.ntmps13
          go_wp2_with fail
          refine (hb _).mono ?_
          rintro e w' ⟨rfl, rfl⟩
          go_wp2_with fail
          refine (hd _).mono ?_
          rintro e w' ⟨rfl, rfl⟩
          go_wp2
          go_ret
          exact ⟨rfl, (Below.refl _ _).alloc (Nat.le_refl _) _⟩
      · rw [decide_eq_false h1]
        go_enter Try.func13, Try.ntmps13
        go_wp2_with fail
        refine (hb _).mono ?_
        rintro e w' ⟨rfl, rfl⟩
        go_wp2_with fail
        refine (hd _).mono ?_
        rintro e w' ⟨rfl, rfl⟩
        go_wp2
        go_ret
        exact ⟨rfl, (Below.refl _ _).alloc (Nat.le_refl _) _⟩
theorem rright_at {b t d : Int} {r : Bool} (h : rightT b t d = r) (w : World) : Calls Try.prog 13 #[turnV b t d] w fun e w' => e = .returned (.bool r) ∧ Below w.heap.size w w' := h ▸ rright_any b t d w

set_option maxRecDepth 100000 in
theorem rready_any (b t d now : Int) (w : World) : Calls Try.prog 15 #[turnV b t d, .int .i64 now] w fun e w' => e = .returned (.bool (readyT b t d now)) ∧ Below w.heap.size w w' := by
  unfold readyT
  obtain ⟨w1, hw1⟩ : ∃ w1, w.alloc (.cells #[.int .i64 b, .int .i64 t, .int .i64 d] 23) = w1 := ⟨_, rfl⟩
  have b1 : Below w.heap.size w w1 := by rw [← hw1]; exact (Below.refl _ _).alloc (Nat.le_refl _) _
  have z1 : w.heap.size < w1.heap.size := by rw [← hw1]; simp
  have q1 : w1.heap[w.heap.size]? = some (.cells #[.int .i64 b, .int .i64 t, .int .i64 d] 23 (0, 0)) := by rw [← hw1]; exact heap_alloc_new w _
  have c0 := Lib.cell_of_heap q1 0
  have c1 := Lib.cell_of_heap q1 1
  have c2 := Lib.cell_of_heap q1 2
  simp at c0 c1 c2
  have hr := rright_any b t d w1
  have K := Lib.hid (And.intro (And.intro b1 z1) q1)
  clear b1 q1
  cases hq : rightT b t d with
  | false =>
    rw [hq] at hr
    clear hq
    go_enter Try.func15, Try.ntmps15
    go_wp2_with (go_at_call 13; refine hr.mono ?_; rintro e w2 ⟨rfl, hb⟩)
    go_ret
    exact ⟨rfl, K.out.1.1.trans (hb.mono (by have := K.out.1.2; omega))⟩
  | true =>
    rw [hq] at hr
    clear hq
    go_enter Try.func15, Try.ntmps15
    go_wp2_with fail
    refine hr.mono ?_
    rintro e w2 ⟨rfl, hb⟩
    have k2 := (hb.cell (p := ⟨w.heap.size, 2, none⟩) z1).trans c2
    have B2 := Lib.hid (K.out.1.1.trans (hb.mono (by have := K.out.1.2; omega)))
    clear hb
    go_wp2
    go_ret
    exact ⟨rfl, B2.out⟩
set_option maxRecDepth 100000 in
theorem rnew_any (n : Int) (w : World) : Calls Try.prog 10 #[.int .i64 n] w fun e w' => e = .returned (.tuple (if timeT n = true then #[turnV n 0 n, .int .i64 0] else #[turnV 0 0 0, .int .i64 1])) ∧ Below w.heap.size w w' := by
  have hn := istime_any n
  obtain ⟨p, hp⟩ : ∃ p, timeT n = p := ⟨_, rfl⟩
  rw [hp] at hn ⊢
  clear hp
  cases p with
  | false =>
    go_enter Try.func10, Try.ntmps10
    go_wp2_with (go_at_call 16; refine (hn _).mono ?_; rintro e w' ⟨rfl, rfl⟩)
    refine bodyPost_ret (v := .tuple #[turnV 0 0 0, .int .i64 1]) (by simp [results, Try.f10, go_sem]) rfl ⟨rfl, ?_⟩
    exact (Below.refl _ _).alloc (Nat.le_refl _) _
  | true =>
    go_enter Try.func10, Try.ntmps10
    go_wp2_with (go_at_call 16; refine (hn _).mono ?_; rintro e w' ⟨rfl, rfl⟩)
    refine bodyPost_ret (v := .tuple #[turnV n 0 n, .int .i64 0]) (by simp [results, Try.f10, go_sem]) rfl ⟨rfl, ?_⟩
    exact (Below.refl _ _).alloc (Nat.le_refl _) _
end Go.Proofs.Ytnggjoleiapboaa
