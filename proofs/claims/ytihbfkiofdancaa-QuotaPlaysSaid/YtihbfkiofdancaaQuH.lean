/-
  A book that a law made, of the memory behind the law's beginning: its calls; awake of layer 9 returns true.
-/
import Derived.Test.YtihbfkiofdancaaQuE
namespace Go.Proofs.Ytihbfkiofdancaa
open Go.RowKit Go.Maps

/-- A book in the block N, made since the world w0. -/
structure HasB (w0 : World) (N n : Nat) (bo ta : Nat → Int) (W : World) : Prop where
  bN : w0.heap.size ≤ N
  bk : BookAt W N n bo ta
  lo : Below w0.heap.size w0 W

section
variable {w0 W W' : World} {N M n m : Nat} {bo ta bo' ta' : Nat → Int}
theorem HasB.below (h : HasB w0 N n bo ta W) (hb : Below W.heap.size W W') : HasB w0 N n bo ta W' := ⟨h.bN, h.bk.below hb, h.lo.trans (hb.mono h.lo.size)⟩
theorem HasB.drewN (h : HasB w0 N n bo ta W) (q : Nat) : HasB w0 N n bo ta (W.drewN q) := h.below (below_drewN (Below.refl _ W) q)
theorem HasB.drew (h : HasB w0 N n bo ta W) : HasB w0 N n bo ta W.drew := h.drewN 1
/-- Another book, behind a call at one. -/
theorem HasB.other (h : HasB w0 M m bo' ta' W) (hN : N ≠ M) (t : Turned (fun b => b = N) W W') (k : Below w0.heap.size w0 W') : HasB w0 M m bo' ta' W' := ⟨h.bN, h.bk.keep t (fun e => hN e.symm), k⟩
theorem HasB.turn (h : HasB w0 N n bo ta W) (b : BookAt W' N n bo ta') (t : Turned (fun b => b = N) W W') : HasB w0 N n bo ta' W' :=
  ⟨h.bN, b, h.lo.trans (t.below h.lo.size (fun b e => by rw [e]; exact h.bN))⟩

theorem hb_taken (h : HasB w0 N n bo ta W) (l : Int) : Calls Try.prog 15 #[.pointer (some ⟨N, 0, none⟩), .int .i64 l] W fun e w' => e = .returned (.int .i64 (takenQ n ta l)) ∧ w' = W := qtaken_any N n bo ta W h.bk l
theorem hb_total (h : HasB w0 N n bo ta W) : Calls Try.prog 17 #[.pointer (some ⟨N, 0, none⟩)] W fun e w' => e = .returned (.int .i64 (sumQ ta n)) ∧ w' = W := qtotal_any N n bo ta W h.bk
theorem hb_left (h : HasB w0 N n bo ta W) (l : Int) : Calls Try.prog 16 #[.pointer (some ⟨N, 0, none⟩), .int .i64 l] W fun e w' => e = .returned (.int .i64 (leftQ n bo ta l)) ∧ ∃ q, w' = W.drewN q := qleft_any N n bo ta W h.bk l
theorem hb_take (h : HasB w0 N n bo ta W) (l m : Int) (hm : m ≤ 9223372036854775807) : Calls Try.prog 10 #[.pointer (some ⟨N, 0, none⟩), .int .i64 l, .int .i64 m] W fun e w' => e = .returned (.int .i64 (takeQ n bo ta l m)) ∧ HasB w0 N n bo (nextQ ta (takeQ n bo ta l m) l m) w' ∧ Turned (fun b => b = N) W w' :=
  (qtake_any N n bo ta W h.bk l m hm).mono fun _ _ ⟨he, hb, ht⟩ => ⟨he, h.turn hb ht, ht⟩
theorem hb_give (h : HasB w0 N n bo ta W) (l m : Int) (hm : m ≤ 9223372036854775807) : Calls Try.prog 12 #[.pointer (some ⟨N, 0, none⟩), .int .i64 l, .int .i64 m] W fun e w' => e = .returned (.int .i64 (giveQ n ta l m)) ∧ HasB w0 N n bo (nextQ ta (giveQ n ta l m) l (-m)) w' ∧ Turned (fun b => b = N) W w' :=
  (qgive_any N n bo ta W h.bk l m hm).mono fun _ _ ⟨he, hb, ht⟩ => ⟨he, h.turn hb ht, ht⟩
theorem hb_copy (h : HasB w0 N n bo ta W) : Calls Try.prog 14 #[.pointer (some ⟨N, 0, none⟩)] W fun e w' => ∃ M, e = .returned (.pointer (some ⟨M, 0, none⟩)) ∧ HasB w0 M n bo ta w' ∧ HasB w0 N n bo ta w' ∧ N ≠ M :=
  (qcopy_any N n bo ta W h.bk).mono fun _ _ ⟨hb, M, he, hM, hk⟩ => ⟨M, he, ⟨Nat.le_trans h.lo.size hM, hk, h.lo.trans (hb.mono h.lo.size)⟩, h.below hb, by have := h.bk.lt; omega⟩
/-- A book is made. -/
theorem hb_new {A : Option Addr} {c : Nat} {lb : List Int} (hlo : Below w0.heap.size w0 W) (h : Ints W A n lb) : Calls Try.prog 8 #[.slice A n c] W fun e w' => Below W.heap.size W w' ∧ ((goodQ lb = false ∧ e = .returned (.tuple #[.pointer none, .int .i64 1])) ∨
      (goodQ lb = true ∧ ∃ N, e = .returned (.tuple #[.pointer (some ⟨N, 0, none⟩), .int .i64 0]) ∧ W.heap.size ≤ N ∧ HasB w0 N n (fun i => lb.getD i 0) (fun _ => 0) w')) :=
  (qnew_any A n c lb W h).mono fun _ _ ⟨hb, hr⟩ => ⟨hb, hr.imp id fun ⟨hg, N, he, hN, hk⟩ => ⟨hg, N, he, hN, ⟨Nat.le_trans hlo.size hN, hk, hlo.trans (hb.mono hlo.size)⟩⟩⟩
end

def awB : Nat → Int := fun i => [5, 7].getD i 0
def awT0 : Nat → Int := fun _ => 0
def awT1 : Nat → Int := nextQ awT0 0 0 5
def awT2 : Nat → Int := nextQ awT1 0 0 (-2)

set_option maxRecDepth 100000 in
set_option maxHeartbeats 4000000 in
theorem awake9_any (w : World) : Calls Try.prog 7 #[] w fun e w' => e = .returned (.bool true) ∧ Below w.heap.size w w' := by
  have hI : Ints (w.alloc (.cells #[.int .i64 5, .int .i64 7] 3)) (some ⟨w.heap.size, 0, none⟩) 2 [5, 7] := by
    refine ⟨rfl, .inr ⟨w.heap.size, 0, rfl, by simp, fun i hi => ?_⟩⟩
    have e := heap_alloc_new w (.cells #[.int .i64 5, .int .i64 7] 3)
    rw [Lib.cell_of_heap e]
    match i, hi with
    | 0, _ => rfl
    | 1, _ => rfl
  have hb0 : Below w.heap.size w (w.alloc (.cells #[.int .i64 5, .int .i64 7] 3)) := (Below.refl _ w).alloc (Nat.le_refl _) _
  have hN0 : ∀ W, Calls Try.prog 8 #[.slice none 0 0] W fun e w' => Below W.heap.size W w' ∧ e = .returned (.tuple #[.pointer none, .int .i64 1]) := fun W =>
    (qnew_any none 0 0 [] W ⟨rfl, .inl rfl⟩).mono fun _ _ ⟨hb, hr⟩ => ⟨hb, by
      rcases hr with hr | hr
      · exact hr.2
      · have : goodQ [] = false := by decide
        rw [this] at hr
        exact absurd hr.1 (by decide)⟩
  go_enter Try.func7, Try.ntmps7
  go_wp2_with fail
  refine (hb_new hb0 hI).mono ?_
  rintro e w1 ⟨_, hr⟩
  obtain ⟨N, rfl, hB⟩ : ∃ N, e = .returned (.tuple #[.pointer (some ⟨N, 0, none⟩), .int .i64 0]) ∧ HasB w N 2 awB awT0 w1 := by
    rcases hr with hr | hr
    · have : goodQ [5, 7] = true := by decide
      rw [this] at hr
      exact absurd hr.1 (by decide)
    · obtain ⟨_, N, he, _, hB⟩ := hr
      exact ⟨N, he, hB⟩
  clear hr hI hb0
  go_wp2_with fail
  refine (hN0 w1).mono ?_
  rintro e w2 ⟨hb2, rfl⟩
  replace hB := hB.below hb2
  clear hb2 hN0
  have c1 := hb_take hB 0 5 (by omega)
  rw [show takeQ 2 awB awT0 0 5 = 0 by decide] at c1
  go_wp2_with fail
  refine c1.mono ?_
  rintro e w3 ⟨rfl, hB3, _⟩
  clear hB c1
  have c1 := hb_take hB3 0 1 (by omega)
  rw [show takeQ 2 awB (nextQ awT0 0 0 5) 0 1 = 5 by decide] at c1
  go_wp2_with fail
  refine c1.mono ?_
  rintro e w4 ⟨rfl, hB4, _⟩
  replace hB4 : HasB w N 2 awB awT1 w4 := hB4
  clear hB3 c1
  have c1 := hb_give hB4 0 2 (by omega)
  rw [show giveQ 2 awT1 0 2 = 0 by decide] at c1
  go_wp2_with fail
  refine c1.mono ?_
  rintro e w5 ⟨rfl, hB5, _⟩
  replace hB5 : HasB w N 2 awB awT2 w5 := hB5
  clear hB4 c1
  have k1 : ∀ W, HasB w N 2 awB awT2 W → Calls Try.prog 15 #[.pointer (some ⟨N, 0, none⟩), .int .i64 0] W fun e w' => e = .returned (.int .i64 3) ∧ w' = W := fun W h => hb_taken h 0
  have k2 : ∀ W, HasB w N 2 awB awT2 W → Calls Try.prog 16 #[.pointer (some ⟨N, 0, none⟩), .int .i64 0] W fun e w' => e = .returned (.int .i64 2) ∧ HasB w N 2 awB awT2 w' := fun W h => (hb_left h 0).mono fun _ _ ⟨he, q, hq⟩ => ⟨he, hq ▸ h.drewN q⟩
  have k3 : ∀ W, HasB w N 2 awB awT2 W → Calls Try.prog 16 #[.pointer (some ⟨N, 0, none⟩), .int .i64 1] W fun e w' => e = .returned (.int .i64 7) ∧ HasB w N 2 awB awT2 w' := fun W h => (hb_left h 1).mono fun _ _ ⟨he, q, hq⟩ => ⟨he, hq ▸ h.drewN q⟩
  have k4 : ∀ W, HasB w N 2 awB awT2 W → Calls Try.prog 17 #[.pointer (some ⟨N, 0, none⟩)] W fun e w' => e = .returned (.int .i64 3) ∧ w' = W := fun W h => hb_total h
  have k5 : ∀ W, HasB w N 2 awB awT2 W → Calls Try.prog 10 #[.pointer (some ⟨N, 0, none⟩), .int .i64 2, .int .i64 0] W fun e w' => e = .returned (.int .i64 4) ∧ HasB w N 2 awB awT2 w' := fun W h => (hb_take h 2 0 (by omega)).mono fun _ _ ⟨he, hq, _⟩ => ⟨he, hq⟩
  have k6 : ∀ W, HasB w N 2 awB awT2 W → Calls Try.prog 14 #[.pointer (some ⟨N, 0, none⟩)] W fun e w' => ∃ M, e = .returned (.pointer (some ⟨M, 0, none⟩)) ∧ HasB w M 2 awB awT2 w' := fun W h => (hb_copy h).mono fun _ _ ⟨M, he, hq, _⟩ => ⟨M, he, hq⟩
  have k7 : ∀ M W, HasB w M 2 awB awT2 W → Calls Try.prog 15 #[.pointer (some ⟨M, 0, none⟩), .int .i64 0] W fun e w' => e = .returned (.int .i64 3) ∧ w' = W := fun M W h => hb_taken h 0
  go_wp2_with fail
  refine (k1 _ hB5).mono ?_
  rintro e w' ⟨rfl, h9⟩
  obtain rfl := h9.symm
  clear h9
  go_wp2_with fail
  refine (k2 _ hB5).mono ?_
  rintro e w6 ⟨rfl, hB6⟩
  clear hB5
  go_wp2_with fail
  refine (k3 _ hB6).mono ?_
  rintro e w7 ⟨rfl, hB7⟩
  clear hB6
  go_wp2_with fail
  refine (k4 _ hB7).mono ?_
  rintro e w' ⟨rfl, h9⟩
  obtain rfl := h9.symm
  clear h9
  go_wp2_with fail
  refine (k5 _ hB7).mono ?_
  rintro e w8 ⟨rfl, hB8⟩
  clear hB7
  go_wp2_with fail
  refine (k6 _ hB8).mono ?_
  rintro e w9 ⟨M, rfl, hB9⟩
  clear hB8
  go_wp2_with fail
  refine (k7 _ _ hB9).mono ?_
  rintro e w' ⟨rfl, h9⟩
  obtain rfl := h9.symm
  clear h9
  have Hb := Lib.hid hB9.lo
  clear hB9 k1 k2 k3 k4 k5 k6 k7
  go_wp2_with fail
  go_ret
  exact ⟨rfl, Hb.out⟩
end Go.Proofs.Ytihbfkiofdancaa
