/-
  A book's calls that take and give, and that tell what is left and what is taken in all.
-/
import Derived.Test.YtihbfkiofdancaaQuB
namespace Go.Proofs.Ytihbfkiofdancaa
open Go.RowKit Go.Maps

/-- May so much more be taken, or less? -/
def mayQ (b t m : Int) : Bool := decide (m ≤ b - t ∧ -t ≤ m)
def moreQ (ta : Nat → Int) (i : Nat) (m : Int) : Nat → Int := fun j => if j = i then ta i + m else ta j

set_option maxRecDepth 100000 in
set_option maxHeartbeats 1000000 in
theorem qchange_any (N n : Nat) (bo ta : Nat → Int) (w : World) (h : BookAt w N n bo ta) (i : Nat) (hi : i < n) (m : Int) (hm0 : -9223372036854775808 ≤ m) (hm1 : m ≤ 9223372036854775807) :
    Calls Try.prog 19 #[.pointer (some ⟨N, i * 2, none⟩), .int .i64 m] w fun e w' => e = .returned (.bool (mayQ (bo i) (ta i) m)) ∧ BookAt w' N n bo (if mayQ (bo i) (ta i) m = true then moreQ ta i m else ta) ∧ Turned (fun b => b = N) w w' := by
  obtain ⟨_, c, cf⟩ := h.cells
  obtain ⟨c1, c2⟩ := c i hi
  obtain ⟨o1, o2, o3⟩ := h.ok i hi
  have hset := fun q1 q2 => h.set hi (ta i + m) q1 q2
  have H := Lib.hid h
  have hcf := cf (i * 2 + 1)
  have hld := load64_q _ _ w c2
  have hcs := cas64_q _ _ (ta i + m) w c2 hcf
  have Hset := Lib.hid hset
  unfold moreQ mayQ
  generalize ta i = t at *
  generalize bo i = b at *
  clear h c cf hset
  by_cases h1 : m ≤ b - t
  · by_cases h2 : -t ≤ m
    · rw [decide_eq_true (And.intro h1 h2)]
      go_enter Try.func19, Try.ntmps19
      go_wp2
      refine wp_loop_rounds 1 ?_
      rw [rounds_succ]
      go_wp2_with (first | (go_at_call 22; refine hld.mono ?_; rintro e w' ⟨rfl, rfl⟩) | (go_at_call 24; refine hcs.mono ?_; rintro e w' ⟨rfl, rfl⟩))
      go_ret
      exact ⟨rfl, Hset.out (by omega) (by omega), Turned.set rfl⟩
    · rw [decide_eq_false (fun h => h2 h.2)]
      go_enter Try.func19, Try.ntmps19
      go_wp2
      refine wp_loop_rounds 1 ?_
      rw [rounds_succ]
      go_wp2_with (first | (go_at_call 22; refine hld.mono ?_; rintro e w' ⟨rfl, rfl⟩))
      go_ret
      exact ⟨rfl, H.out, Turned.refl _ _⟩
  · rw [decide_eq_false (fun h => h1 h.1)]
    go_enter Try.func19, Try.ntmps19
    go_wp2
    refine wp_loop_rounds 1 ?_
    rw [rounds_succ]
    go_wp2_with (first | (go_at_call 22; refine hld.mono ?_; rintro e w' ⟨rfl, rfl⟩))
    go_ret
    exact ⟨rfl, H.out, Turned.refl _ _⟩

/-- What taking answers, and giving. -/
def takeQ (n : Nat) (bo ta : Nat → Int) (l m : Int) : Int := if checkQ n l m ≠ 0 then checkQ n l m else if m ≤ bo l.toNat - ta l.toNat then 0 else 5
def giveQ (n : Nat) (ta : Nat → Int) (l m : Int) : Int := if checkQ n l m ≠ 0 then checkQ n l m else if m ≤ ta l.toNat then 0 else 1
/-- What is taken behind a call that answers c. -/
def nextQ (ta : Nat → Int) (c l m : Int) : Nat → Int := if c = 0 then moreQ ta l.toNat m else ta
theorem check_ok {n : Nat} {l m : Int} (h : checkQ n l m = 0) : 0 ≤ m ∧ ∃ i : Nat, l = i ∧ i < n := by
  unfold checkQ at h
  by_cases h1 : hasQ n l = true
  · rw [if_pos h1] at h
    obtain ⟨a, b⟩ := of_decide_eq_true h1
    by_cases h2 : m < 0
    · rw [if_pos h2] at h
      omega
    · exact ⟨by omega, l.toNat, by omega, by omega⟩
  · rw [if_neg h1] at h
    omega
theorem check_cases (n : Nat) (l m : Int) : checkQ n l m = 0 ∨ checkQ n l m = 1 ∨ checkQ n l m = 4 := by
  unfold checkQ
  split
  · split <;> simp
  · simp

set_option maxRecDepth 100000 in
set_option maxHeartbeats 1000000 in
theorem qtake_any (N n : Nat) (bo ta : Nat → Int) (w : World) (h : BookAt w N n bo ta) (l m : Int) (hm1 : m ≤ 9223372036854775807) :
    Calls Try.prog 10 #[.pointer (some ⟨N, 0, none⟩), .int .i64 l, .int .i64 m] w fun e w' => e = .returned (.int .i64 (takeQ n bo ta l m)) ∧ BookAt w' N n bo (nextQ ta (takeQ n bo ta l m) l m) ∧ Turned (fun b => b = N) w w' := by
  have hck := qcheck_any N n bo ta w h l m
  by_cases h0 : checkQ n l m = 0
  · obtain ⟨hm, i, rfl, hi⟩ := check_ok h0
    have hch := qchange_any N n bo ta w h i hi m (by omega) hm1
    have hn := h.n16
    obtain ⟨o1, o2, o3⟩ := h.ok i hi
    rw [show takeQ n bo ta i m = if m ≤ bo i - ta i then 0 else 5 by unfold takeQ; rw [if_neg (fun e => e h0), Int.toNat_natCast]]
    rw [h0] at hck
    unfold nextQ
    rw [Int.toNat_natCast]
    unfold mayQ at hch
    by_cases h1 : m ≤ bo i - ta i
    · rw [decide_eq_true (And.intro h1 (show -ta i ≤ m by omega)), if_pos rfl] at hch
      rw [if_pos h1, if_pos rfl]
      generalize moreQ ta i m = ta' at hch ⊢
      generalize ta i = t at *
      generalize bo i = b at *
      clear h h0 h1
      go_enter Try.func10, Try.ntmps10
      go_wp2_with (first | (go_at_call 18; refine hck.mono ?_; rintro e w' ⟨rfl, rfl⟩) | (go_at_call 19; refine hch.mono ?_; rintro e w' ⟨rfl, q1, q2⟩))
      go_ret
      exact ⟨rfl, q1, q2⟩
    · rw [decide_eq_false (fun h => h1 h.1), if_neg (show ¬ (false = true) by simp)] at hch
      rw [if_neg h1, if_neg (show ¬ ((5 : Int) = 0) by decide)]
      clear h h0 h1
      go_enter Try.func10, Try.ntmps10
      go_wp2_with (first | (go_at_call 18; refine hck.mono ?_; rintro e w' ⟨rfl, rfl⟩) | (go_at_call 19; refine hch.mono ?_; rintro e w' ⟨rfl, q1, q2⟩))
      go_ret
      exact ⟨rfl, q1, q2⟩
  · rw [show takeQ n bo ta l m = checkQ n l m by unfold takeQ; rw [if_pos h0]]
    unfold nextQ
    rw [if_neg h0]
    have H := Lib.hid h
    rcases (check_cases n l m).resolve_left h0 with h1 | h1 <;> rw [h1] at hck ⊢ <;> clear h h0 h1
    · go_enter Try.func10, Try.ntmps10
      go_wp2_with (first | (go_at_call 18; refine hck.mono ?_; rintro e w' ⟨rfl, rfl⟩))
      go_ret
      exact ⟨rfl, H.out, Turned.refl _ _⟩
    · go_enter Try.func10, Try.ntmps10
      go_wp2_with (first | (go_at_call 18; refine hck.mono ?_; rintro e w' ⟨rfl, rfl⟩))
      go_ret
      exact ⟨rfl, H.out, Turned.refl _ _⟩

set_option maxRecDepth 100000 in
set_option maxHeartbeats 1000000 in
theorem qgive_any (N n : Nat) (bo ta : Nat → Int) (w : World) (h : BookAt w N n bo ta) (l m : Int) (hm1 : m ≤ 9223372036854775807) :
    Calls Try.prog 12 #[.pointer (some ⟨N, 0, none⟩), .int .i64 l, .int .i64 m] w fun e w' => e = .returned (.int .i64 (giveQ n ta l m)) ∧ BookAt w' N n bo (nextQ ta (giveQ n ta l m) l (-m)) ∧ Turned (fun b => b = N) w w' := by
  have hck := qcheck_any N n bo ta w h l m
  by_cases h0 : checkQ n l m = 0
  · obtain ⟨hm, i, rfl, hi⟩ := check_ok h0
    have hch := qchange_any N n bo ta w h i hi (-m) (by omega) (by omega)
    have hn := h.n16
    obtain ⟨o1, o2, o3⟩ := h.ok i hi
    rw [show giveQ n ta i m = if m ≤ ta i then 0 else 1 by unfold giveQ; rw [if_neg (fun e => e h0), Int.toNat_natCast]]
    rw [h0] at hck
    unfold nextQ
    rw [Int.toNat_natCast]
    unfold mayQ at hch
    by_cases h1 : m ≤ ta i
    · rw [decide_eq_true (And.intro (show -m ≤ bo i - ta i by omega) (show -ta i ≤ -m by omega)), if_pos rfl] at hch
      rw [if_pos h1, if_pos rfl]
      generalize moreQ ta i (-m) = ta' at hch ⊢
      generalize ta i = t at *
      generalize bo i = b at *
      clear h h0 h1
      go_enter Try.func12, Try.ntmps12
      go_wp2_with (first | (go_at_call 18; refine hck.mono ?_; rintro e w' ⟨rfl, rfl⟩) | (go_at_call 19; refine hch.mono ?_; rintro e w' ⟨rfl, q1, q2⟩))
      go_ret
      exact ⟨rfl, q1, q2⟩
    · rw [decide_eq_false (fun h => h1 (by have := h.2; omega)), if_neg (show ¬ (false = true) by simp)] at hch
      rw [if_neg h1, if_neg (show ¬ ((1 : Int) = 0) by decide)]
      generalize ta i = t at *
      generalize bo i = b at *
      clear h h0 h1
      go_enter Try.func12, Try.ntmps12
      go_wp2_with (first | (go_at_call 18; refine hck.mono ?_; rintro e w' ⟨rfl, rfl⟩) | (go_at_call 19; refine hch.mono ?_; rintro e w' ⟨rfl, q1, q2⟩))
      go_ret
      exact ⟨rfl, q1, q2⟩
  · rw [show giveQ n ta l m = checkQ n l m by unfold giveQ; rw [if_pos h0]]
    unfold nextQ
    rw [if_neg h0]
    have H := Lib.hid h
    rcases (check_cases n l m).resolve_left h0 with h1 | h1 <;> rw [h1] at hck ⊢ <;> clear h h0 h1
    · go_enter Try.func12, Try.ntmps12
      go_wp2_with (first | (go_at_call 18; refine hck.mono ?_; rintro e w' ⟨rfl, rfl⟩))
      go_ret
      exact ⟨rfl, H.out, Turned.refl _ _⟩
    · go_enter Try.func12, Try.ntmps12
      go_wp2_with (first | (go_at_call 18; refine hck.mono ?_; rintro e w' ⟨rfl, rfl⟩))
      go_ret
      exact ⟨rfl, H.out, Turned.refl _ _⟩
end Go.Proofs.Ytihbfkiofdancaa
