/-
  Texts of this proof, put together: RtA, RtB.
-/
import Derived.Test.YtgpdplffljidbaaGreatDoorRows
import Derived.WalkKit
import Derived.WalkSpells
import Derived.WalkLawsBesides
import Derived.RegionTactic
import Derived.ChangeAlike
import Derived.Below
import Derived.Deep.QuietTactic
import Derived.BigQuiet
import Derived.Lib.Hide
namespace Go.Proofs.YtgpdplffljidbaaGreatDoor
open Go.RowKit

def timeT (n : Int) : Bool := decide (0 ≤ n) && decide (n ≤ 1099511627776)
def rightT (b t d : Int) : Bool := timeT b && (timeT d && (decide (b ≤ d) && (decide (0 ≤ t) && decide (t < 5))))
def readyT (b t d now : Int) : Bool := rightT b t d && decide (d ≤ now)
abbrev turnV (b t d : Int) : Value := .agg #[.int .i64 b, .int .i64 t, .int .i64 d]

set_option maxRecDepth 100000 in
theorem istime_any (n : Int) (w : World) : Calls Tryz.prog 61 #[.int .i64 n] w fun e w' => e = .returned (.bool (timeT n)) ∧ w' = w := by
  unfold timeT
  by_cases h0 : 0 ≤ n
  · by_cases h1 : n ≤ 1099511627776
    · rw [decide_eq_true h0, decide_eq_true h1]
      go_enter Tryz.func61, Tryz.ntmps61
      go_wp2
      go_ret
      exact ⟨rfl, rfl⟩
    · rw [decide_eq_true h0, decide_eq_false h1]
      go_enter Tryz.func61, Tryz.ntmps61
      go_wp2
      go_ret
      exact ⟨rfl, rfl⟩
  · rw [decide_eq_false h0]
    go_enter Tryz.func61, Tryz.ntmps61
    go_wp2
    go_ret
    exact ⟨rfl, rfl⟩
set_option maxRecDepth 100000 in
theorem rright_any (b t d : Int) (w : World) : Calls Tryz.prog 49 #[turnV b t d] w fun e w' => e = .returned (.bool (rightT b t d)) ∧ Below w.heap.size w w' := by
  unfold rightT
  have hb := istime_any b
  have hd := istime_any d
  obtain ⟨p, hp⟩ : ∃ p, timeT b = p := ⟨_, rfl⟩
  obtain ⟨q, hq⟩ : ∃ q, timeT d = q := ⟨_, rfl⟩
  rw [hp] at hb ⊢
  rw [hq] at hd ⊢
  clear hp hq
  cases p with
  | false =>
    go_enter Tryz.func49, Tryz.ntmps49
    go_wp2_with (go_at_call 61; refine (hb _).mono ?_; rintro e w' ⟨rfl, rfl⟩)
    go_ret
    exact ⟨rfl, (Below.refl _ _).alloc (Nat.le_refl _) _⟩
  | true =>
    cases q with
    | false =>
      go_enter Tryz.func49, Tryz.ntmps49
      go_wp2_with fail
      refine (hb _).mono ?_
      rintro e w' ⟨rfl, rfl⟩
      go_wp2_with fail
      refine (hd _).mono ?_
      rintro e w' ⟨rfl, rfl⟩
      go_wp2
      go_ret
      exact ⟨rfl, (Below.refl _ _).alloc (Nat.le_refl _) _⟩
    | true =>
      by_cases h1 : b ≤ d
      · by_cases h2 : 0 ≤ t
        · rw [decide_eq_true h1, decide_eq_true h2]
          go_enter Tryz.func49, Tryz.ntmps49
          go_wp2_with fail
          refine (hb _).mono ?_
          rintro e w' ⟨rfl, rfl⟩
          go_wp2_with fail
          refine (hd _).mono ?_
          rintro e w' ⟨rfl, rfl⟩
          go_wp2
          go_ret
          exact ⟨rfl, (Below.refl _ _).alloc (Nat.le_refl _) _⟩
        · rw [decide_eq_true h1, decide_eq_false h2]
          go_enter Tryz.func49, Tryz.ntmps49
          go_wp2_with fail
          refine (hb _).mono ?_
          rintro e w' ⟨rfl, rfl⟩
          go_wp2_with fail
          refine (hd _).mono ?_
          rintro e w' ⟨rfl, rfl⟩
          go_wp2
          go_ret
          exact ⟨rfl, (Below.refl _ _).alloc (Nat.le_refl _) _⟩
      · rw [decide_eq_false h1]
        go_enter Tryz.func49, Tryz.ntmps49
        go_wp2_with fail
        refine (hb _).mono ?_
        rintro e w' ⟨rfl, rfl⟩
        go_wp2_with fail
        refine (hd _).mono ?_
        rintro e w' ⟨rfl, rfl⟩
        go_wp2
        go_ret
        exact ⟨rfl, (Below.refl _ _).alloc (Nat.le_refl _) _⟩
set_option maxRecDepth 100000 in
theorem rready_any (b t d now : Int) (w : World) : Calls Tryz.prog 44 #[turnV b t d, .int .i64 now] w fun e w' => e = .returned (.bool (readyT b t d now)) ∧ Below w.heap.size w w' := by
  unfold readyT
  obtain ⟨w1, hw1⟩ : ∃ w1, w.alloc (.cells #[.int .i64 b, .int .i64 t, .int .i64 d] 42) = w1 := ⟨_, rfl⟩
  have b1 : Below w.heap.size w w1 := by rw [← hw1]; exact (Below.refl _ _).alloc (Nat.le_refl _) _
  have z1 : w.heap.size < w1.heap.size := by rw [← hw1]; simp
  have q1 : w1.heap[w.heap.size]? = some (.cells #[.int .i64 b, .int .i64 t, .int .i64 d] 42 (0, 0)) := by rw [← hw1]; exact heap_alloc_new w _
  have c0 := Lib.cell_of_heap q1 0
  have c1 := Lib.cell_of_heap q1 1
  have c2 := Lib.cell_of_heap q1 2
  simp at c0 c1 c2
  have hr := rright_any b t d w1
  have K := Lib.hid (And.intro (And.intro b1 z1) q1)
  clear b1 q1
  cases hq : rightT b t d with
  | false =>
    rw [hq] at hr
    clear hq
    go_enter Tryz.func44, Tryz.ntmps44
    go_wp2_with (go_at_call 49; refine hr.mono ?_; rintro e w2 ⟨rfl, hb⟩)
    go_ret
    exact ⟨rfl, K.out.1.1.trans (hb.mono (by have := K.out.1.2; omega))⟩
  | true =>
    rw [hq] at hr
    clear hq
    go_enter Tryz.func44, Tryz.ntmps44
    go_wp2_with fail
    refine hr.mono ?_
    rintro e w2 ⟨rfl, hb⟩
    have k2 := (hb.cell (p := ⟨w.heap.size, 2, none⟩) z1).trans c2
    have B2 := Lib.hid (K.out.1.1.trans (hb.mono (by have := K.out.1.2; omega)))
    clear hb
    go_wp2
    go_ret
    exact ⟨rfl, B2.out⟩
end Go.Proofs.YtgpdplffljidbaaGreatDoor
namespace Go.Proofs.YtgpdplffljidbaaGreatDoor
open Go.RowKit

abbrev TurnT := Int × Int × Int
def waitT (t : Int) : Int := 2 ^ (t + 1).toNat
def failT (b t d now : Int) : TurnT × Bool × Int :=
  if rightT b t d = false ∨ timeT now = false then ((0, 0, 0), false, 1)
  else if now < d then ((0, 0, 0), false, 9)
  else if t = 4 ∨ 40 < now - b ∨ 1099511627776 < now + waitT t then ((0, 0, 0), true, 0)
  else ((b, t + 1, now + waitT t), false, 0)
def turnX (x : TurnT) : Value := turnV x.1 x.2.1 x.2.2
def failV (r : TurnT × Bool × Int) : Value := .tuple #[turnX r.1, .bool r.2.1, .int .i64 r.2.2]
theorem right_of {b t d : Int} (h : rightT b t d = true) : (0 ≤ b ∧ b ≤ 1099511627776) ∧ (0 ≤ d ∧ d ≤ 1099511627776) ∧ b ≤ d ∧ 0 ≤ t ∧ t < 5 := by
  unfold rightT timeT at h
  simp only [Bool.and_eq_true, decide_eq_true_eq] at h
  exact h
theorem time_of {n : Int} (h : timeT n = true) : 0 ≤ n ∧ n ≤ 1099511627776 := by
  unfold timeT at h
  simp only [Bool.and_eq_true, decide_eq_true_eq] at h
  exact h

theorem wait_few {t : Int} (h0 : 0 ≤ t) (h1 : t < 5) : waitT t = 2 ∨ waitT t = 4 ∨ waitT t = 8 ∨ waitT t = 16 ∨ waitT t = 32 := by
  rcases (show t = 0 ∨ t = 1 ∨ t = 2 ∨ t = 3 ∨ t = 4 by omega) with rfl | rfl | rfl | rfl | rfl <;> decide

def TurnAt (w : World) (B : Nat) (b t d : Int) : Prop := w.heap[B]? = some (.cells #[.int .i64 b, .int .i64 t, .int .i64 d] 42 (0, 0))
section
variable {w w' : World} {B : Nat} {b t d : Int}
theorem TurnAt.lt (h : TurnAt w B b t d) : B < w.heap.size := (Array.getElem?_eq_some_iff.1 h).1
theorem TurnAt.cells (h : TurnAt w B b t d) : w.cell? ⟨B, 0, none⟩ = some (.int .i64 b) ∧ w.cell? ⟨B, 1, none⟩ = some (.int .i64 t) ∧ w.cell? ⟨B, 2, none⟩ = some (.int .i64 d) ∧ w.frozen? ⟨B, 0, none⟩ = false ∧ w.frozen? ⟨B, 1, none⟩ = false ∧ w.frozen? ⟨B, 2, none⟩ = false :=
  ⟨Lib.cell_of_heap h 0, Lib.cell_of_heap h 1, Lib.cell_of_heap h 2, Lib.frozen_of_heap h 0, Lib.frozen_of_heap h 1, Lib.frozen_of_heap h 2⟩
theorem TurnAt.below (h : TurnAt w B b t d) (hb : Below w.heap.size w w') : TurnAt w' B b t d := (hb.block _ h.lt).trans h
theorem turn_new (w : World) (b t d : Int) : TurnAt (w.alloc (.cells #[.int .i64 b, .int .i64 t, .int .i64 d] 42)) w.heap.size b t d := heap_alloc_new w _
def putT3 (w : World) (B : Nat) (b t d : Int) : World := ((w.setCell ⟨B, 0, none⟩ (.int .i64 b)).setCell ⟨B, 1, none⟩ (.int .i64 t)).setCell ⟨B, 2, none⟩ (.int .i64 d)
theorem TurnAt.put (h : TurnAt w B b t d) (b' t' d' : Int) : TurnAt (putT3 w B b' t' d') B b' t' d' := by
  unfold TurnAt at h ⊢
  unfold putT3
  have h1 := heap_setCell_same w B 0 _ _ (.int .i64 b') h
  have h2 := heap_setCell_same _ B 1 _ _ (.int .i64 t') h1
  have h3 := heap_setCell_same _ B 2 _ _ (.int .i64 d') h2
  rw [h3]
  rfl
theorem putT3_below {M : Nat} {v : World} (h : Below M v w) (hB : M ≤ B) (b t d : Int) : Below M v (putT3 w B b t d) := by
  unfold putT3
  exact ((h.setCell (p := ⟨B, 0, none⟩) hB _).setCell (p := ⟨B, 1, none⟩) hB _).setCell (p := ⟨B, 2, none⟩) hB _
theorem putT3_block {k : Nat} (h : k ≠ B) (b t d : Int) : (putT3 w B b t d).heap[k]? = w.heap[k]? := by
  unfold putT3
  exact (Below.heap_setCell _ ⟨B, 2, none⟩ _ k h).trans ((Below.heap_setCell _ ⟨B, 1, none⟩ _ k h).trans (Below.heap_setCell _ ⟨B, 0, none⟩ _ k h))
end

def put5 (W : World) (B : Nat) (x1 x2 : Value) (y0 y1 y2 : Int) : World := putT3 ((W.setCell ⟨B, 1, none⟩ x1).setCell ⟨B, 2, none⟩ x2) (B + 1) y0 y1 y2
theorem put5_at {w W : World} {B : Nat} (h2 : TurnAt W (B + 1) 0 0 0) (hb : Below B w W) (x1 x2 : Value) (y0 y1 y2 : Int) : TurnAt (put5 W B x1 x2 y0 y1 y2) (B + 1) y0 y1 y2 ∧ Below B w (put5 W B x1 x2 y0 y1 y2) := by
  have e : TurnAt ((W.setCell ⟨B, 1, none⟩ x1).setCell ⟨B, 2, none⟩ x2) (B + 1) 0 0 0 := (Below.heap_setCell _ ⟨B, 2, none⟩ x2 (B + 1) (by show B + 1 ≠ B; omega)).trans ((Below.heap_setCell _ ⟨B, 1, none⟩ x1 (B + 1) (by show B + 1 ≠ B; omega)).trans h2)
  exact ⟨e.put y0 y1 y2, putT3_below ((hb.setCell (p := ⟨B, 1, none⟩) (Nat.le_refl _) _).setCell (p := ⟨B, 2, none⟩) (Nat.le_refl _) _) (by omega) _ _ _⟩

set_option maxRecDepth 100000 in
set_option maxHeartbeats 2000000 in
theorem rfailed_any (b t d now : Int) (w : World) : Calls Tryz.prog 36 #[turnV b t d, .int .i64 now] w fun e w' => e = .returned (failV (failT b t d now)) ∧ Below w.heap.size w w' := by
  obtain ⟨w1, hw1⟩ : ∃ w1, (w.alloc (.cells #[.int .i64 b, .int .i64 t, .int .i64 d] 42)).alloc (.cells #[.int .i64 0, .int .i64 0, .int .i64 0] 42) = w1 := ⟨_, rfl⟩
  have b1 : Below w.heap.size w w1 := by rw [← hw1]; exact ((Below.refl _ _).alloc (Nat.le_refl _) _).alloc (by simp) _
  have z1 : w1.heap.size = w.heap.size + 2 := by rw [← hw1]; simp
  have t1 : TurnAt w1 w.heap.size b t d := by
    rw [← hw1]
    exact (turn_new w b t d).below ((Below.refl _ _).alloc (Nat.le_refl _) _)
  have r1 : TurnAt w1 (w.heap.size + 1) 0 0 0 := by
    rw [← hw1]
    have := turn_new (w.alloc (.cells #[.int .i64 b, .int .i64 t, .int .i64 d] 42)) 0 0 0
    rw [World.size_alloc] at this
    exact this
  have K : Hid (∀ W, Below w1.heap.size w1 W → TurnAt W w.heap.size b t d ∧ TurnAt W (w.heap.size + 1) 0 0 0 ∧ Below w.heap.size w W) := Lib.hid fun W hW => ⟨t1.below hW, r1.below hW, b1.trans (hW.mono (by omega))⟩
  have hr := rright_any b t d w1
  obtain ⟨c0, c1, c2, f0, f1, f2⟩ := t1.cells
  unfold failT
  cases hq : rightT b t d with
  | false =>
    rw [if_pos (.inl rfl)]
    rw [hq] at hr
    clear b1 t1 r1 hq
    go_enter Tryz.func36, Tryz.ntmps36
    go_wp2_with fail
    refine hr.mono ?_
    rintro e w2 ⟨rfl, hb⟩
    obtain ⟨k1, k2, k3⟩ := K.out w2 hb
    obtain ⟨x0, x1, x2, y0, y1, y2⟩ := k2.cells
    obtain ⟨u0, u1, u2, _⟩ := (k2.put 0 0 0).cells
    have Bl := Lib.hid (putT3_below k3 (show w.heap.size ≤ w.heap.size + 1 by omega) 0 0 0)
    unfold putT3 at u0 u1 u2 Bl
    clear k1 k2 k3 hb K
    go_wp2
    refine bodyPost_ret (v := failV ((0, 0, 0), false, 1)) (by simp [results, failV, turnX, Tryz.f36, go_sem, u0, u1, u2]) rfl ⟨rfl, Bl.out⟩
  | true =>
    rw [hq] at hr
    obtain ⟨⟨p1, p2⟩, ⟨p3, p4⟩, p5, p6, p7⟩ := right_of hq
    have hnow := istime_any now
    cases hn : timeT now with
    | false =>
      rw [if_pos (.inr rfl)]
      rw [hn] at hnow
      clear b1 t1 r1 hq hn
      go_enter Tryz.func36, Tryz.ntmps36
      go_wp2_with fail
      refine hr.mono ?_
      rintro e w2 ⟨rfl, hb⟩
      obtain ⟨k1, k2, k3⟩ := K.out w2 hb
      obtain ⟨x0, x1, x2, y0, y1, y2⟩ := k2.cells
      obtain ⟨u0, u1, u2, _⟩ := (k2.put 0 0 0).cells
      have Bl := Lib.hid (putT3_below k3 (show w.heap.size ≤ w.heap.size + 1 by omega) 0 0 0)
      unfold putT3 at u0 u1 u2 Bl
      clear k1 k2 k3 hb K
      go_wp2_with fail
      refine (hnow _).mono ?_
      rintro e w' ⟨rfl, rfl⟩
      go_wp2
      refine bodyPost_ret (v := failV ((0, 0, 0), false, 1)) (by simp [results, failV, turnX, Tryz.f36, go_sem, u0, u1, u2]) rfl ⟨rfl, Bl.out⟩
    | true =>
      rw [if_neg (by simp)]
      rw [hn] at hnow
      obtain ⟨n1, n2⟩ := time_of hn
      have hrd : Hid (∀ W, Calls Tryz.prog 44 #[turnV b t d, .int .i64 now] W fun e w' => e = .returned (.bool (decide (d ≤ now))) ∧ Below W.heap.size W w') := Lib.hid fun W => by
        have := rready_any b t d now W
        unfold readyT at this
        rw [hq, Bool.true_and] at this
        exact this
      by_cases hd : now < d
      · rw [if_pos hd]
        have hdd : decide (d ≤ now) = false := decide_eq_false (by omega)
        rw [hdd] at hrd
        clear b1 t1 r1 hq hn hdd
        go_enter Tryz.func36, Tryz.ntmps36
        go_wp2_with fail
        refine hr.mono ?_
        rintro e w2 ⟨rfl, hb⟩
        have hb2 := Lib.hid hb
        obtain ⟨k1, k2, k3⟩ := K.out w2 hb
        obtain ⟨x0, x1, x2, y0, y1, y2⟩ := k1.cells
        clear k1 k2 k3 hb
        go_wp2_with fail
        refine (hnow _).mono ?_
        rintro e w' ⟨rfl, rfl⟩
        go_wp2_with fail
        refine (hrd.out _).mono ?_
        rintro e w3 ⟨rfl, hb3⟩
        obtain ⟨k1, k2, k3⟩ := K.out w3 (hb2.out.trans (hb3.mono hb2.out.size))
        clear x0 x1 x2 y0 y1 y2 c0 c1 c2 f0 f1 f2
        obtain ⟨x0, x1, x2, y0, y1, y2⟩ := k2.cells
        obtain ⟨u0, u1, u2, _⟩ := (k2.put 0 0 0).cells
        have Bl := Lib.hid (putT3_below k3 (show w.heap.size ≤ w.heap.size + 1 by omega) 0 0 0)
        unfold putT3 at u0 u1 u2 Bl
        clear k1 k2 k3 hb3 K
        go_wp2
        refine bodyPost_ret (v := failV ((0, 0, 0), false, 9)) (by simp [results, failV, turnX, Tryz.f36, go_sem, u0, u1, u2]) rfl ⟨rfl, Bl.out⟩
      · rw [if_neg hd]
        have hdd : decide (d ≤ now) = true := decide_eq_true (by omega)
        rw [hdd] at hrd
        have hw := wait_few p6 p7
        have e1 : wrap64 (2 ^ (t + 1).toNat) = waitT t := by
          show wrap64 (waitT t) = waitT t
          exact IntWalk.wrap64_in _ (by omega)
        have e2 : wrap64 (now + waitT t) = now + waitT t := IntWalk.wrap64_in _ (by omega)
        have htt := istime_any (now + waitT t)
        by_cases h4 : t = 4
        · rw [if_pos (.inl h4)]
          subst h4
          clear b1 t1 r1 hq hn hdd
          go_enter Tryz.func36, Tryz.ntmps36
          go_wp2_with fail
          refine hr.mono ?_
          rintro e w2 ⟨rfl, hb⟩
          have hb2 := Lib.hid hb
          obtain ⟨k1, k2, k3⟩ := K.out w2 hb
          obtain ⟨x0, x1, x2, y0, y1, y2⟩ := k1.cells
          clear k1 k2 k3 hb
          go_wp2_with fail
          refine (hnow _).mono ?_
          rintro e w' ⟨rfl, rfl⟩
          go_wp2_with fail
          refine (hrd.out _).mono ?_
          rintro e w3 ⟨rfl, hb3⟩
          obtain ⟨k1, k2, k3⟩ := K.out w3 (hb2.out.trans (hb3.mono hb2.out.size))
          clear x0 x1 x2 y0 y1 y2 c0 c1 c2 f0 f1 f2
          obtain ⟨x0, x1, x2, y0, y1, y2⟩ := k1.cells
          obtain ⟨v0, v1, v2, o0, o1, o2⟩ := k2.cells
          have Fin := Lib.hid (And.intro k1 (And.intro k2 k3))
          clear k1 k2 k3 hb3 hb2 K
          go_wp2
          have A5 := put5_at Fin.out.2.1 Fin.out.2.2 (.int .i64 5) (.int .i64 (now + 32)) 0 0 0
          obtain ⟨u0, u1, u2, _⟩ := A5.1.cells
          unfold put5 putT3 at u0 u1 u2 A5
          refine bodyPost_ret (v := failV ((0, 0, 0), true, 0)) (by simp [results, failV, turnX, Tryz.f36, go_sem, u0, u1, u2]) rfl ⟨rfl, A5.2⟩
        · by_cases h40 : 40 < now - b
          · rw [if_pos (.inr (.inl h40))]
            clear b1 t1 r1 hq hn hdd
            go_enter Tryz.func36, Tryz.ntmps36
            go_wp2_with fail
            refine hr.mono ?_
            rintro e w2 ⟨rfl, hb⟩
            have hb2 := Lib.hid hb
            obtain ⟨k1, k2, k3⟩ := K.out w2 hb
            obtain ⟨x0, x1, x2, y0, y1, y2⟩ := k1.cells
            clear k1 k2 k3 hb
            go_wp2_with fail
            refine (hnow _).mono ?_
            rintro e w' ⟨rfl, rfl⟩
            go_wp2_with fail
            refine (hrd.out _).mono ?_
            rintro e w3 ⟨rfl, hb3⟩
            obtain ⟨k1, k2, k3⟩ := K.out w3 (hb2.out.trans (hb3.mono hb2.out.size))
            clear x0 x1 x2 y0 y1 y2 c0 c1 c2 f0 f1 f2
            obtain ⟨x0, x1, x2, y0, y1, y2⟩ := k1.cells
            obtain ⟨v0, v1, v2, o0, o1, o2⟩ := k2.cells
            have Fin := Lib.hid (And.intro k1 (And.intro k2 k3))
            clear k1 k2 k3 hb3 hb2 K
            have h5 : ¬ t + 1 = 5 := by omega
            go_wp2
            have A5 := put5_at Fin.out.2.1 Fin.out.2.2 (.int .i64 (t + 1)) (.int .i64 (now + waitT t)) 0 0 0
            obtain ⟨u0, u1, u2, _⟩ := A5.1.cells
            unfold put5 putT3 at u0 u1 u2 A5
            refine bodyPost_ret (v := failV ((0, 0, 0), true, 0)) (by simp [results, failV, turnX, Tryz.f36, go_sem, u0, u1, u2]) rfl ⟨rfl, A5.2⟩
          · by_cases hl : 1099511627776 < now + waitT t
            · rw [if_pos (.inr (.inr hl))]
              have hf : timeT (now + waitT t) = false := by
                unfold timeT
                rw [decide_eq_false (show ¬ now + waitT t ≤ 1099511627776 by omega), Bool.and_false]
              rw [hf] at htt
              clear hf
              clear b1 t1 r1 hq hn hdd
              go_enter Tryz.func36, Tryz.ntmps36
              go_wp2_with fail
              refine hr.mono ?_
              rintro e w2 ⟨rfl, hb⟩
              have hb2 := Lib.hid hb
              obtain ⟨k1, k2, k3⟩ := K.out w2 hb
              obtain ⟨x0, x1, x2, y0, y1, y2⟩ := k1.cells
              clear k1 k2 k3 hb
              go_wp2_with fail
              refine (hnow _).mono ?_
              rintro e w' ⟨rfl, rfl⟩
              go_wp2_with fail
              refine (hrd.out _).mono ?_
              rintro e w3 ⟨rfl, hb3⟩
              obtain ⟨k1, k2, k3⟩ := K.out w3 (hb2.out.trans (hb3.mono hb2.out.size))
              clear x0 x1 x2 y0 y1 y2 c0 c1 c2 f0 f1 f2
              obtain ⟨x0, x1, x2, y0, y1, y2⟩ := k1.cells
              obtain ⟨v0, v1, v2, o0, o1, o2⟩ := k2.cells
              have Fin := Lib.hid (And.intro k1 (And.intro k2 k3))
              clear k1 k2 k3 hb3 hb2 K
              have h5 : (t + 1 == 5) = false := by simpa using (by omega : ¬ t + 1 = 5)
              have h41 : decide (40 < now - b) = false := decide_eq_false (by omega)
              go_wp2_with (go_at_call 61; refine (htt _).mono ?_; rintro e w4 ⟨rfl, rfl⟩)
              have A5 := put5_at Fin.out.2.1 Fin.out.2.2 (.int .i64 (t + 1)) (.int .i64 (now + waitT t)) 0 0 0
              obtain ⟨u0, u1, u2, _⟩ := A5.1.cells
              unfold put5 putT3 at u0 u1 u2 A5
              refine bodyPost_ret (v := failV ((0, 0, 0), true, 0)) (by simp [results, failV, turnX, Tryz.f36, go_sem, u0, u1, u2]) rfl ⟨rfl, A5.2⟩
            · rw [if_neg (by omega)]
              have hf : timeT (now + waitT t) = true := by
                unfold timeT
                rw [decide_eq_true (show now + waitT t ≤ 1099511627776 by omega), decide_eq_true (show 0 ≤ now + waitT t by omega)]
                rfl
              rw [hf] at htt
              clear hf
              clear b1 t1 r1 hq hn hdd
              go_enter Tryz.func36, Tryz.ntmps36
              go_wp2_with fail
              refine hr.mono ?_
              rintro e w2 ⟨rfl, hb⟩
              have hb2 := Lib.hid hb
              obtain ⟨k1, k2, k3⟩ := K.out w2 hb
              obtain ⟨x0, x1, x2, y0, y1, y2⟩ := k1.cells
              clear k1 k2 k3 hb
              go_wp2_with fail
              refine (hnow _).mono ?_
              rintro e w' ⟨rfl, rfl⟩
              go_wp2_with fail
              refine (hrd.out _).mono ?_
              rintro e w3 ⟨rfl, hb3⟩
              obtain ⟨k1, k2, k3⟩ := K.out w3 (hb2.out.trans (hb3.mono hb2.out.size))
              clear x0 x1 x2 y0 y1 y2 c0 c1 c2 f0 f1 f2
              obtain ⟨x0, x1, x2, y0, y1, y2⟩ := k1.cells
              obtain ⟨v0, v1, v2, o0, o1, o2⟩ := k2.cells
              have Fin := Lib.hid (And.intro k1 (And.intro k2 k3))
              clear k1 k2 k3 hb3 hb2 K
              have h5 : (t + 1 == 5) = false := by simpa using (by omega : ¬ t + 1 = 5)
              have h41 : decide (40 < now - b) = false := decide_eq_false (by omega)
              go_wp2_with (go_at_call 61; refine (htt _).mono ?_; rintro e w4 ⟨rfl, rfl⟩)
              have A5 := put5_at Fin.out.2.1 Fin.out.2.2 (.int .i64 (t + 1)) (.int .i64 (now + waitT t)) b (t + 1) (now + waitT t)
              obtain ⟨u0, u1, u2, _⟩ := A5.1.cells
              unfold put5 putT3 at u0 u1 u2 A5
              refine bodyPost_ret (v := failV ((b, t + 1, now + waitT t), false, 0)) (by simp [results, failV, turnX, Tryz.f36, go_sem, u0, u1, u2]) rfl ⟨rfl, A5.2⟩
end Go.Proofs.YtgpdplffljidbaaGreatDoor
