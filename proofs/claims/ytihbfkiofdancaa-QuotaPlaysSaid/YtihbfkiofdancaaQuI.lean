/-
  QuotaApart returns true, for any bounds, any acts and any level: the walk.
-/
import Derived.Test.YtihbfkiofdancaaQuT
import Derived.Deep.RegionHeld3
namespace Go.Proofs.Ytihbfkiofdancaa
open Go.RowKit Go.Maps

theorem take_in {n : Nat} {bo ta : Nat → Int} {k : Nat} {m : Int} (h : k < n) : takeQ n bo ta (k : Int) m = if m < 0 then 1 else if m ≤ bo k - ta k then 0 else 5 := by
  unfold takeQ checkQ hasQ
  rw [decide_eq_true (show 0 ≤ (k : Int) ∧ (k : Int) < n by omega), if_pos rfl, Int.toNat_natCast]
  by_cases hm : m < 0
  · rw [if_pos hm, if_pos (by decide), if_pos hm]
  · rw [if_neg hm, if_neg (fun e => e rfl), if_neg hm]
theorem give_in {n : Nat} {ta : Nat → Int} {k : Nat} {m : Int} (h : k < n) : giveQ n ta (k : Int) m = if m < 0 then 1 else if m ≤ ta k then 0 else 1 := by
  unfold giveQ checkQ hasQ
  rw [decide_eq_true (show 0 ≤ (k : Int) ∧ (k : Int) < n by omega), if_pos rfl, Int.toNat_natCast]
  by_cases hm : m < 0
  · rw [if_pos hm, if_pos (by decide), if_pos hm]
  · rw [if_neg hm, if_neg (fun e => e rfl), if_neg hm]
theorem next_in (ta : Nat → Int) (c m : Int) (k : Nat) : nextQ ta c (k : Int) m k = if c = 0 then ta k + m else ta k := by
  unfold nextQ
  by_cases h : c = 0
  · rw [if_pos h, if_pos h, Int.toNat_natCast]
    unfold moreQ
    rw [if_pos rfl]
  · rw [if_neg h, if_neg h]
theorem next_out {n : Nat} {ta : Nat → Int} {c l m : Int} {k : Nat} (hl : l ≠ k) (hc : c = 0 → ∃ i : Nat, l = i ∧ i < n) : nextQ ta c l m k = ta k := by
  unfold nextQ
  by_cases h : c = 0
  · obtain ⟨i, rfl, _⟩ := hc h
    rw [if_pos h, Int.toNat_natCast]
    unfold moreQ
    rw [if_neg (by omega)]
  · rw [if_neg h]
theorem take_apart {n : Nat} {bo ta : Nat → Int} {l m : Int} {k : Nat} (hl : l ≠ k) : nextQ ta (takeQ n bo ta l m) l m k = ta k :=
  next_out (n := n) hl fun h => by
    obtain ⟨_, i, h1, h2, _⟩ := take_zero h
    exact ⟨i, h1, h2⟩
theorem give_apart {n : Nat} {ta : Nat → Int} {l m x : Int} {k : Nat} (hl : l ≠ k) : nextQ ta (giveQ n ta l m) l x k = ta k :=
  next_out (n := n) hl fun h => by
    obtain ⟨_, i, h1, h2, _⟩ := give_zero h
    exact ⟨i, h1, h2⟩

set_option maxRecDepth 100000 in
set_option maxHeartbeats 4000000 in
theorem qapart_walk (A : Option Addr) (n c : Nat) (lb : List Int) (A' : Option Addr) (n' c' : Nat) (la : List ActQ) (lev : Int) (w : World) (h : Ints w A n lb) (h' : ActsQ w A' n' la) :
    Calls Try.prog 4 #[.slice A n c, .slice A' n' c', .int .i64 lev] w fun e w' => e = .returned (.bool true) ∧ Below w.heap.size w w' := by
  have haw := awake9_any w
  go_enter Try.func4, Try.ntmps4
  go_wp2_with fail
  refine haw.mono ?_
  rintro e w1 ⟨rfl, hb1⟩
  clear haw
  by_cases hn : 16 < n
  · have Hb := Lib.hid hb1
    clear hb1
    go_wp2_with fail
    go_ret
    exact ⟨rfl, Hb.out⟩
  by_cases hn' : 300 < n'
  · have Hb := Lib.hid hb1
    clear hb1
    go_wp2_with fail
    go_ret
    exact ⟨rfl, Hb.out⟩
  by_cases hl0 : lev < 0
  · have Hb := Lib.hid hb1
    clear hb1
    go_wp2_with fail
    go_ret
    exact ⟨rfl, Hb.out⟩
  by_cases hl1 : (n : Int) ≤ lev
  · have Hb := Lib.hid hb1
    clear hb1
    go_wp2_with fail
    go_ret
    exact ⟨rfl, Hb.out⟩
  obtain ⟨lv, rfl⟩ : ∃ lv : Nat, lev = lv := ⟨lev.toNat, by omega⟩
  have hlv : lv < n := by omega
  have hI := h.below hb1 (Nat.le_refl _)
  go_wp2_with fail
  refine (hb_new hb1 hI).mono ?_
  rintro e w2 ⟨hb2, hr⟩
  have hB2 := hb1.trans (hb2.mono hb1.size)
  have hI2 := h.below hB2 (Nat.le_refl _)
  clear hI hb2
  have hN := hb_new (c := c) hB2 hI2
  clear hI2 hb1
  rcases hr with ⟨hg, rfl⟩ | ⟨hg, N, rfl, _, hB⟩
  · go_wp2_with fail
    refine hN.mono ?_
    rintro e w3 ⟨hb3, hr⟩
    rcases hr with ⟨_, rfl⟩ | ⟨hg2, _⟩
    · have Hb := Lib.hid (hB2.trans (hb3.mono hB2.size))
      clear hB2 hb3 hN
      go_wp2_with fail
      go_ret
      exact ⟨rfl, Hb.out⟩
    · rw [hg] at hg2
      exact absurd hg2 (by decide)
  go_wp2_with fail
  refine hN.mono ?_
  rintro e w3 ⟨hb3, hr⟩
  rcases hr with ⟨hg2, _⟩ | ⟨_, M, rfl, hM, hD⟩
  · rw [hg] at hg2
    exact absurd hg2 (by decide)
  have hNM : N ≠ M := by
    have := hB.bk.lt
    omega
  replace hB := hB.below hb3
  generalize hbo : (fun i => lb.getD i 0) = bo at hB hD
  have HBO := Lib.hid hbo
  have H := Lib.hid h
  have H' := Lib.hid h'
  clear hbo hB2 h h' hN hb3 hM hg
  go_wp2_with fail
  go_loopw [11] (fun iv wr => ∃ (i : Nat) (ta tb : Nat → Int), i ≤ n' ∧ iv = .int .i64 i ∧ HasB w N n bo ta wr ∧ HasB w M n bo tb wr ∧ ta lv = tb lv) (fun iv _ => n' - (intOf iv).toNat)
  case atStart => exact ⟨0, _, _, by omega, rfl, hB, hD, rfl⟩
  case round =>
    clear hB hD
    obtain ⟨i, ta, tb, hi, rfl, hB, hD, heq⟩ := hrel
    by_cases hlt : i < n'
    case neg =>
      obtain rfl : i = n' := by omega
      have Hb := Lib.hid hB.lo
      clear hB hD heq
      go_wp2_with fail
      go_ret
      exact ⟨rfl, Hb.out⟩
    obtain ⟨b, off, k, l, m, rfl, hbs, hm0, hm1, hcs⟩ := H'.out.at_ hlt
    obtain ⟨bb, bf, rfl, hbb, hbc⟩ := H.out.at_ hlv
    rw [show lb.getD lv 0 = bo lv by rw [← HBO.out]] at hbc
    have hbx : ∀ W, Below w.heap.size w W → W.cell? ⟨bb, bf + lv, none⟩ = some (.int .i64 (bo lv)) := fun W hW => (hW.cell (p := ⟨bb, bf + lv, none⟩) hbb).trans hbc
    obtain ⟨c0, c1, c2⟩ := hcs _ hB.lo
    have Hcs := Lib.hid hcs
    have Hbx := Lib.hid hbx
    have HB := Lib.hid hB
    have HD := Lib.hid hD
    have Heq := Lib.hid heq
    clear hcs hbc hbx hB hD heq
    by_cases hk0 : k = 0
    · subst hk0
      go_wp2_with fail
      go_region_held3 (fun W => W.cell? ⟨b, off + i * 3 + 1, none⟩ = some (.int .i64 l) ∧ W.cell? ⟨b, off + i * 3 + 2, none⟩ = some (.int .i64 m)) (first | exact ⟨c1, c2⟩ | exact (Hcs.out _ hB8.lo).2 | (go_simp; done)) ((go_at_call 10; refine (hb_take HB.out.drew l m hm1).mono ?_; rintro e w8 ⟨rfl, hB8, t8⟩))
      have hD8 := HD.out.drew.other hNM t8 hB8.lo
      obtain ⟨d0, d1, d2⟩ := Hcs.out _ hB8.lo
      by_cases hl : l = (lv : Int)
      · have q5 : (l == (lv : Int)) = true := by rw [beq_iff_eq]; exact hl
        have hcc : takeQ n bo tb (lv : Int) m = takeQ n bo ta l m := by rw [hl, take_in hlv, take_in hlv, Heq.out]
        have hcl := hb_take hD8 (lv : Int) m hm1
        rw [hcc] at hcl
        rw [hl] at hB8
        rw [hl] at hcl
        rw [hl] at hcc
        rw [show takeQ n bo ta l m = takeQ n bo ta (lv : Int) m by rw [hl]]
        generalize takeQ n bo ta (lv : Int) m = f at hcl hB8 hcc ⊢
        have HB8 := Lib.hid hB8
        clear hB8 hD8 hcc t8
        have Hl := Lib.hid hl
        clear hl
        go_wp2_with fail
        refine hcl.mono ?_
        rintro e w9 ⟨rfl, hD9, t9⟩
        have hB9 := HB8.out.other (Ne.symm hNM) t9 hD9.lo
        have heq : nextQ ta f (lv : Int) m lv = nextQ tb f (lv : Int) m lv := by rw [next_in, next_in, Heq.out]
        generalize nextQ ta f (lv : Int) m = ta' at hB9 heq
        generalize nextQ tb f (lv : Int) m = tb' at hD9 heq
        have q1 : (f != f) = false := by simp
        clear HB8 d0 d1 d2 c0 c1 c2 t9 hcl
        obtain ⟨r0, r1, r2⟩ := hB9.bk.ok lv hlv
        obtain ⟨c0, c1, c2⟩ := Hcs.out _ hB9.lo
        have cb := Hbx.out _ hB9.lo
        have hqt : ∀ X q, (X = N ∨ X = M) → Calls Try.prog 15 #[.pointer (some ⟨X, 0, none⟩), .int .i64 (lv : Int)] (w9.drewN q) fun e w' => e = .returned (.int .i64 (ta' lv)) ∧ w' = w9.drewN q := fun X q hX => by
          rcases hX with rfl | rfl
          · have := hb_taken (hB9.drewN q) (lv : Int)
            rw [taken_in hlv] at this
            exact this
          · have := hb_taken (hD9.drewN q) (lv : Int)
            rw [taken_in hlv, ← heq] at this
            exact this
        have Hqt := Lib.hid hqt
        have HN := Lib.hid (fun q => And.intro (hB9.drewN q) (And.intro (hD9.drewN q) heq))
        clear hB9 hD9 heq hqt
        generalize hT : ta' lv = t at *
        generalize bo lv = b0 at *
        have HT := Lib.hid hT
        clear hT
        go_wp2_with fail
        have p1 : (t != t) = false := by simp
        have p2 : decide (b0 < t) = false := decide_eq_false (by omega)
        have p3 : decide (t < 0) = false := decide_eq_false (by omega)
        go_quiet (first | (go_at_call 15; exact Calls.quiet_of_same (Hqt.out _ _ (by first | exact .inl rfl | exact .inr rfl))))
        go_wp2_with fail
        go_roundw
        case rel => exact ⟨i + 1, ta', tb', by omega, by go_num, (HN.out _).1, (HN.out _).2.1, HT.out.trans (HN.out 0).2.2⟩
        case measure => simp [intOf]; omega
      · have heq : nextQ ta (takeQ n bo ta l m) l m lv = tb lv := by rw [take_apart hl]; exact Heq.out
        have q1 : (l == (lv : Int)) = false := by rw [beq_eq_false_iff_ne]; exact hl
        generalize takeQ n bo ta l m = f at hB8 heq ⊢
        generalize nextQ ta f l m = ta' at hB8 heq
        obtain ⟨tb', htb⟩ : ∃ tb', tb = tb' := ⟨_, rfl⟩
        have hB9 := hB8
        have hD9 := hD8
        rw [htb] at hD9 heq
        clear hB8 hD8 t8 c0 c1 c2 d0 d1 d2 Heq hl
        obtain ⟨r0, r1, r2⟩ := hB9.bk.ok lv hlv
        obtain ⟨c0, c1, c2⟩ := Hcs.out _ hB9.lo
        have cb := Hbx.out _ hB9.lo
        have hqt : ∀ X q, (X = N ∨ X = M) → Calls Try.prog 15 #[.pointer (some ⟨X, 0, none⟩), .int .i64 (lv : Int)] (w8.drewN q) fun e w' => e = .returned (.int .i64 (ta' lv)) ∧ w' = w8.drewN q := fun X q hX => by
          rcases hX with rfl | rfl
          · have := hb_taken (hB9.drewN q) (lv : Int)
            rw [taken_in hlv] at this
            exact this
          · have := hb_taken (hD9.drewN q) (lv : Int)
            rw [taken_in hlv, ← heq] at this
            exact this
        have Hqt := Lib.hid hqt
        have HN := Lib.hid (fun q => And.intro (hB9.drewN q) (And.intro (hD9.drewN q) heq))
        clear hB9 hD9 heq hqt
        generalize hT : ta' lv = t at *
        generalize bo lv = b0 at *
        have HT := Lib.hid hT
        clear hT
        go_wp2_with fail
        have p1 : (t != t) = false := by simp
        have p2 : decide (b0 < t) = false := decide_eq_false (by omega)
        have p3 : decide (t < 0) = false := decide_eq_false (by omega)
        go_quiet (first | (go_at_call 15; exact Calls.quiet_of_same (Hqt.out _ _ (by first | exact .inl rfl | exact .inr rfl))))
        go_wp2_with fail
        go_roundw
        case rel => exact ⟨i + 1, ta', tb', by omega, by go_num, (HN.out _).1, (HN.out _).2.1, HT.out.trans (HN.out 0).2.2⟩
        case measure => simp [intOf]; omega
    · by_cases hk1 : k = 1
      · subst hk1
        go_wp2_with fail
        go_region_held3 (fun W => W.cell? ⟨b, off + i * 3 + 1, none⟩ = some (.int .i64 l) ∧ W.cell? ⟨b, off + i * 3 + 2, none⟩ = some (.int .i64 m)) (first | exact ⟨c1, c2⟩ | exact (Hcs.out _ hB8.lo).2 | (go_simp; done)) ((go_at_call 12; refine (hb_give HB.out.drew l m hm1).mono ?_; rintro e w8 ⟨rfl, hB8, t8⟩))
        have hD8 := HD.out.drew.other hNM t8 hB8.lo
        obtain ⟨d0, d1, d2⟩ := Hcs.out _ hB8.lo
        by_cases hl : l = (lv : Int)
        · have q5 : (l == (lv : Int)) = true := by rw [beq_iff_eq]; exact hl
          have hcc : giveQ n tb (lv : Int) m = giveQ n ta l m := by rw [hl, give_in hlv, give_in hlv, Heq.out]
          have hcl := hb_give hD8 (lv : Int) m hm1
          rw [hcc] at hcl
          rw [hl] at hB8
          rw [hl] at hcl
          rw [hl] at hcc
          rw [show giveQ n ta l m = giveQ n ta (lv : Int) m by rw [hl]]
          generalize giveQ n ta (lv : Int) m = f at hcl hB8 hcc ⊢
          have HB8 := Lib.hid hB8
          clear hB8 hD8 hcc t8
          have Hl := Lib.hid hl
          clear hl
          go_wp2_with fail
          refine hcl.mono ?_
          rintro e w9 ⟨rfl, hD9, t9⟩
          have hB9 := HB8.out.other (Ne.symm hNM) t9 hD9.lo
          have heq : nextQ ta f (lv : Int) (-m) lv = nextQ tb f (lv : Int) (-m) lv := by rw [next_in, next_in, Heq.out]
          generalize nextQ ta f (lv : Int) (-m) = ta' at hB9 heq
          generalize nextQ tb f (lv : Int) (-m) = tb' at hD9 heq
          have q1 : (f != f) = false := by simp
          clear HB8 d0 d1 d2 c0 c1 c2 t9 hcl
          obtain ⟨r0, r1, r2⟩ := hB9.bk.ok lv hlv
          obtain ⟨c0, c1, c2⟩ := Hcs.out _ hB9.lo
          have cb := Hbx.out _ hB9.lo
          have hqt : ∀ X q, (X = N ∨ X = M) → Calls Try.prog 15 #[.pointer (some ⟨X, 0, none⟩), .int .i64 (lv : Int)] (w9.drewN q) fun e w' => e = .returned (.int .i64 (ta' lv)) ∧ w' = w9.drewN q := fun X q hX => by
            rcases hX with rfl | rfl
            · have := hb_taken (hB9.drewN q) (lv : Int)
              rw [taken_in hlv] at this
              exact this
            · have := hb_taken (hD9.drewN q) (lv : Int)
              rw [taken_in hlv, ← heq] at this
              exact this
          have Hqt := Lib.hid hqt
          have HN := Lib.hid (fun q => And.intro (hB9.drewN q) (And.intro (hD9.drewN q) heq))
          clear hB9 hD9 heq hqt
          generalize hT : ta' lv = t at *
          generalize bo lv = b0 at *
          have HT := Lib.hid hT
          clear hT
          go_wp2_with fail
          have p1 : (t != t) = false := by simp
          have p2 : decide (b0 < t) = false := decide_eq_false (by omega)
          have p3 : decide (t < 0) = false := decide_eq_false (by omega)
          go_quiet (first | (go_at_call 15; exact Calls.quiet_of_same (Hqt.out _ _ (by first | exact .inl rfl | exact .inr rfl))))
          go_wp2_with fail
          go_roundw
          case rel => exact ⟨i + 1, ta', tb', by omega, by go_num, (HN.out _).1, (HN.out _).2.1, HT.out.trans (HN.out 0).2.2⟩
          case measure => simp [intOf]; omega
        · have heq : nextQ ta (giveQ n ta l m) l (-m) lv = tb lv := by rw [give_apart hl]; exact Heq.out
          have q1 : (l == (lv : Int)) = false := by rw [beq_eq_false_iff_ne]; exact hl
          generalize giveQ n ta l m = f at hB8 heq ⊢
          generalize nextQ ta f l (-m) = ta' at hB8 heq
          obtain ⟨tb', htb⟩ : ∃ tb', tb = tb' := ⟨_, rfl⟩
          have hB9 := hB8
          have hD9 := hD8
          rw [htb] at hD9 heq
          clear hB8 hD8 t8 c0 c1 c2 d0 d1 d2 Heq hl
          obtain ⟨r0, r1, r2⟩ := hB9.bk.ok lv hlv
          obtain ⟨c0, c1, c2⟩ := Hcs.out _ hB9.lo
          have cb := Hbx.out _ hB9.lo
          have hqt : ∀ X q, (X = N ∨ X = M) → Calls Try.prog 15 #[.pointer (some ⟨X, 0, none⟩), .int .i64 (lv : Int)] (w8.drewN q) fun e w' => e = .returned (.int .i64 (ta' lv)) ∧ w' = w8.drewN q := fun X q hX => by
            rcases hX with rfl | rfl
            · have := hb_taken (hB9.drewN q) (lv : Int)
              rw [taken_in hlv] at this
              exact this
            · have := hb_taken (hD9.drewN q) (lv : Int)
              rw [taken_in hlv, ← heq] at this
              exact this
          have Hqt := Lib.hid hqt
          have HN := Lib.hid (fun q => And.intro (hB9.drewN q) (And.intro (hD9.drewN q) heq))
          clear hB9 hD9 heq hqt
          generalize hT : ta' lv = t at *
          generalize bo lv = b0 at *
          have HT := Lib.hid hT
          clear hT
          go_wp2_with fail
          have p1 : (t != t) = false := by simp
          have p2 : decide (b0 < t) = false := decide_eq_false (by omega)
          have p3 : decide (t < 0) = false := decide_eq_false (by omega)
          go_quiet (first | (go_at_call 15; exact Calls.quiet_of_same (Hqt.out _ _ (by first | exact .inl rfl | exact .inr rfl))))
          go_wp2_with fail
          go_roundw
          case rel => exact ⟨i + 1, ta', tb', by omega, by go_num, (HN.out _).1, (HN.out _).2.1, HT.out.trans (HN.out 0).2.2⟩
          case measure => simp [intOf]; omega
      · have q2 : (k == 0) = false := by rw [beq_eq_false_iff_ne]; exact hk0
        have q3 : (k == 1) = false := by rw [beq_eq_false_iff_ne]; exact hk1
        obtain ⟨hB9, hD9, heq⟩ := And.intro HB.out (And.intro HD.out Heq.out)
        obtain ⟨ta', hta⟩ : ∃ ta', ta = ta' := ⟨_, rfl⟩
        obtain ⟨tb', htb⟩ : ∃ tb', tb = tb' := ⟨_, rfl⟩
        rw [hta] at hB9 heq
        rw [htb] at hD9 heq
        clear c0 c1 c2 HB HD Heq hk0 hk1
        by_cases hl : l = (lv : Int)
        · have q5 : (l == (lv : Int)) = true := by rw [beq_iff_eq]; exact hl
          clear hl
          obtain ⟨r0, r1, r2⟩ := hB9.bk.ok lv hlv
          obtain ⟨c0, c1, c2⟩ := Hcs.out _ hB9.lo
          have cb := Hbx.out _ hB9.lo
          have hqt : ∀ X q, (X = N ∨ X = M) → Calls Try.prog 15 #[.pointer (some ⟨X, 0, none⟩), .int .i64 (lv : Int)] (wr.drewN q) fun e w' => e = .returned (.int .i64 (ta' lv)) ∧ w' = wr.drewN q := fun X q hX => by
            rcases hX with rfl | rfl
            · have := hb_taken (hB9.drewN q) (lv : Int)
              rw [taken_in hlv] at this
              exact this
            · have := hb_taken (hD9.drewN q) (lv : Int)
              rw [taken_in hlv, ← heq] at this
              exact this
          have Hqt := Lib.hid hqt
          have HN := Lib.hid (fun q => And.intro (hB9.drewN q) (And.intro (hD9.drewN q) heq))
          clear hB9 hD9 heq hqt
          generalize hT : ta' lv = t at *
          generalize bo lv = b0 at *
          have HT := Lib.hid hT
          clear hT
          go_wp2_with fail
          have p1 : (t != t) = false := by simp
          have p2 : decide (b0 < t) = false := decide_eq_false (by omega)
          have p3 : decide (t < 0) = false := decide_eq_false (by omega)
          go_quiet (first | (go_at_call 15; exact Calls.quiet_of_same (Hqt.out _ _ (by first | exact .inl rfl | exact .inr rfl))))
          go_wp2_with fail
          go_roundw
          case rel => exact ⟨i + 1, ta', tb', by omega, by go_num, (HN.out _).1, (HN.out _).2.1, HT.out.trans (HN.out 0).2.2⟩
          case measure => simp [intOf]; omega
        · have q1 : (l == (lv : Int)) = false := by rw [beq_eq_false_iff_ne]; exact hl
          clear hl
          obtain ⟨r0, r1, r2⟩ := hB9.bk.ok lv hlv
          obtain ⟨c0, c1, c2⟩ := Hcs.out _ hB9.lo
          have cb := Hbx.out _ hB9.lo
          have hqt : ∀ X q, (X = N ∨ X = M) → Calls Try.prog 15 #[.pointer (some ⟨X, 0, none⟩), .int .i64 (lv : Int)] (wr.drewN q) fun e w' => e = .returned (.int .i64 (ta' lv)) ∧ w' = wr.drewN q := fun X q hX => by
            rcases hX with rfl | rfl
            · have := hb_taken (hB9.drewN q) (lv : Int)
              rw [taken_in hlv] at this
              exact this
            · have := hb_taken (hD9.drewN q) (lv : Int)
              rw [taken_in hlv, ← heq] at this
              exact this
          have Hqt := Lib.hid hqt
          have HN := Lib.hid (fun q => And.intro (hB9.drewN q) (And.intro (hD9.drewN q) heq))
          clear hB9 hD9 heq hqt
          generalize hT : ta' lv = t at *
          generalize bo lv = b0 at *
          have HT := Lib.hid hT
          clear hT
          go_wp2_with fail
          have p1 : (t != t) = false := by simp
          have p2 : decide (b0 < t) = false := decide_eq_false (by omega)
          have p3 : decide (t < 0) = false := decide_eq_false (by omega)
          go_quiet (first | (go_at_call 15; exact Calls.quiet_of_same (Hqt.out _ _ (by first | exact .inl rfl | exact .inr rfl))))
          go_wp2_with fail
          go_roundw
          case rel => exact ⟨i + 1, ta', tb', by omega, by go_num, (HN.out _).1, (HN.out _).2.1, HT.out.trans (HN.out 0).2.2⟩
          case measure => simp [intOf]; omega
end Go.Proofs.Ytihbfkiofdancaa
