/-
  QuotaBack returns true, for any bounds, any acts, any level and any number: the walk.
-/
import Derived.Test.YtihbfkiofdancaaQuI
namespace Go.Proofs.Ytihbfkiofdancaa
open Go.RowKit Go.Maps

/-- What is left can be taken, and not one more. -/
structure LastQ (n lv : Nat) (bo ta : Nat → Int) : Prop where
  a : takeQ n bo ta (lv : Int) (bo lv - ta lv) = 0
  b : leftQ n bo (nextQ ta 0 (lv : Int) (bo lv - ta lv)) (lv : Int) = 0
  c : takeQ n bo (nextQ ta 0 (lv : Int) (bo lv - ta lv)) (lv : Int) 1 = 5
  d : takeQ n bo (nextQ ta 0 (lv : Int) (bo lv - ta lv)) (lv : Int) 0 = 0
theorem lastQ {n lv : Nat} {bo ta : Nat → Int} (h : lv < n) (h0 : ta lv ≤ bo lv) : LastQ n lv bo ta := by
  have e : nextQ ta 0 (lv : Int) (bo lv - ta lv) lv = bo lv := by rw [next_in, if_pos rfl]; omega
  exact ⟨by rw [take_in h, if_neg (by omega), if_pos (by omega)], by rw [left_in h, e]; omega, by rw [take_in h, e, if_neg (by omega), if_neg (by omega)], by rw [take_in h, e, if_neg (by omega), if_pos (by omega)]⟩

set_option maxRecDepth 100000 in
set_option maxHeartbeats 4000000 in
theorem qback_walk (A : Option Addr) (n c : Nat) (lb : List Int) (A' : Option Addr) (n' c' : Nat) (la : List ActQ) (lev x : Int) (w : World) (h : Ints w A n lb) (h' : ActsQ w A' n' la) (hx : -9223372036854775808 ≤ x ∧ x ≤ 9223372036854775807) :
    Calls Try.prog 5 #[.slice A n c, .slice A' n' c', .int .i64 lev, .int .i64 x] w fun e w' => e = .returned (.bool true) ∧ Below w.heap.size w w' := by
  obtain ⟨x0, x1⟩ := hx
  have haw := awake9_any w
  go_enter Try.func5, Try.ntmps5
  go_wp2_with fail
  refine haw.mono ?_
  rintro e w1 ⟨rfl, hb1⟩
  clear haw
  by_cases hn : 16 < n
  · have Hb := Lib.hid hb1
    clear hb1
    go_wp2_with fail
    go_ret
    exact ⟨rfl, Hb.out⟩
  by_cases hn' : 300 < n'
  · have Hb := Lib.hid hb1
    clear hb1
    go_wp2_with fail
    go_ret
    exact ⟨rfl, Hb.out⟩
  by_cases hl0 : lev < 0
  · have Hb := Lib.hid hb1
    clear hb1
    go_wp2_with fail
    go_ret
    exact ⟨rfl, Hb.out⟩
  by_cases hl1 : (n : Int) ≤ lev
  · have Hb := Lib.hid hb1
    clear hb1
    go_wp2_with fail
    go_ret
    exact ⟨rfl, Hb.out⟩
  obtain ⟨lv, rfl⟩ : ∃ lv : Nat, lev = lv := ⟨lev.toNat, by omega⟩
  have hlv : lv < n := by omega
  have hI := h.below hb1 (Nat.le_refl _)
  go_wp2_with fail
  refine (hb_new hb1 hI).mono ?_
  rintro e w2 ⟨hb2, hr⟩
  have hB2 := hb1.trans (hb2.mono hb1.size)
  clear hI hb2
  rcases hr with ⟨_, rfl⟩ | ⟨_, N, rfl, _, hB⟩
  · have Hb := Lib.hid hB2
    clear hB2 hb1
    go_wp2_with fail
    go_ret
    exact ⟨rfl, Hb.out⟩
  clear hb1
  generalize (fun i => lb.getD i 0) = bo at hB
  have H' := Lib.hid h'
  clear hB2 h h'
  go_wp2_with fail
  go_loopw [11] (fun iv wr => ∃ (i : Nat) (ta : Nat → Int), i ≤ n' ∧ iv = .int .i64 i ∧ HasB w N n bo ta wr) (fun iv _ => n' - (intOf iv).toNat)
  case atStart => exact ⟨0, _, by omega, rfl, hB⟩
  case round =>
    clear hB
    obtain ⟨i, ta, hi, rfl, hB⟩ := hrel
    by_cases hlt : i < n'
    case pos =>
      obtain ⟨b, off, k, l, m, rfl, hbs, hm0, hm1, hcs⟩ := H'.out.at_ hlt
      obtain ⟨c0, c1, c2⟩ := hcs _ hB.lo
      have Hcs := Lib.hid hcs
      have HB := Lib.hid hB
      clear hcs hB
      by_cases hk0 : k = 0
      · subst hk0
        go_wp2_with fail
        go_region_held3 (fun W => W.cell? ⟨b, off + i * 3 + 1, none⟩ = some (.int .i64 l) ∧ W.cell? ⟨b, off + i * 3 + 2, none⟩ = some (.int .i64 m)) (first | exact ⟨c1, c2⟩ | exact (Hcs.out _ hB8.lo).2 | (go_simp; done)) ((go_at_call 10; refine (hb_take HB.out.drew l m hm1).mono ?_; rintro e w8 ⟨rfl, hB8, t8⟩))
        have HB8 := Lib.hid hB8
        clear hB8 t8 HB c0 c1 c2
        go_wp2_with fail
        go_roundw
        case rel => exact ⟨i + 1, _, by omega, by go_num, HB8.out⟩
        case measure => simp [intOf]; omega
      · have q1 : (k == 0) = false := by rw [beq_eq_false_iff_ne]; exact hk0
        clear hk0
        go_wp2_with fail
        go_roundw
        case rel => exact ⟨i + 1, _, by omega, by go_num, HB.out⟩
        case measure => simp [intOf]; omega
    obtain rfl : i = n' := by omega
    obtain ⟨r0, r1, r2⟩ := hB.bk.ok lv hlv
    have k1 := hb_taken hB (lv : Int)
    have k2 := hb_left hB (lv : Int)
    rw [taken_in hlv] at k1
    obtain ⟨z, hz⟩ : ∃ z, bo lv - ta lv = z := ⟨_, rfl⟩
    rw [left_in hlv, hz] at k2
    have Hzz := Lib.hid hz
    clear hz
    have HB := Lib.hid hB
    clear hB
    go_wp2_with fail
    refine k1.mono ?_
    rintro e w' ⟨rfl, h9⟩
    obtain rfl := h9.symm
    clear h9 k1
    go_wp2_with fail
    refine k2.mono ?_
    rintro e w5 ⟨rfl, q, h9⟩
    have hB5 : HasB w N n bo ta w5 := h9 ▸ HB.out.drewN q
    clear h9 k2 HB
    have k3 := hb_take hB5 (lv : Int) x x1
    by_cases hok : 0 ≤ x ∧ x ≤ bo lv - ta lv
    · obtain ⟨y0, y1⟩ := hok
      rw [show takeQ n bo ta (lv : Int) x = 0 by rw [take_in hlv, if_neg (by omega), if_pos y1]] at k3
      have Hx : Hid (nextQ ta 0 (lv : Int) x lv = ta lv + x) := Lib.hid (by rw [next_in, if_pos rfl])
      have Hy : Hid (nextQ (nextQ ta 0 (lv : Int) x) 0 (lv : Int) (-x) lv = ta lv) := Lib.hid (by rw [next_in, if_pos rfl, Hx.out]; omega)
      have Hz : Hid (giveQ n (nextQ ta 0 (lv : Int) x) (lv : Int) x = 0) := Lib.hid (by rw [give_in hlv, if_neg (by omega), Hx.out, if_pos (by omega)])
      clear hB5
      generalize hT : ta lv = t at *
      generalize hO : bo lv = b0 at *
      have HO := Lib.hid hO
      clear hT hO
      have hz := Hzz.out
      rw [hz] at y1
      have Hz2 := Lib.hid hz
      go_wp2_with fail
      refine k3.mono ?_
      rintro e w6 ⟨rfl, hB6, _⟩
      have k4 := hb_taken hB6 (lv : Int)
      rw [taken_in hlv, Hx.out] at k4
      have k5 := hb_give hB6 (lv : Int) x x1
      rw [Hz.out] at k5
      clear k3 hB6
      generalize nextQ (nextQ ta 0 (lv : Int) x) 0 (lv : Int) (-x) = ta2 at k5 Hy
      go_wp2_with fail
      refine k4.mono ?_
      rintro e w' ⟨rfl, h9⟩
      obtain rfl := h9.symm
      clear h9 k4
      go_wp2_with fail
      refine k5.mono ?_
      rintro e w7 ⟨rfl, hB7, _⟩
      have k6 := hb_taken hB7 (lv : Int)
      rw [taken_in hlv, Hy.out] at k6
      have k7 := hb_left hB7 (lv : Int)
      rw [left_in hlv, Hy.out, HO.out] at k7
      rw [Hz2.out] at k7
      have hLQ := lastQ (bo := bo) (ta := ta2) hlv (by rw [Hy.out, HO.out]; omega)
      have HB7 := Lib.hid hB7
      clear hB7 k5
      go_wp2_with fail
      refine k6.mono ?_
      rintro e w' ⟨rfl, h9⟩
      obtain rfl := h9.symm
      clear h9 k6
      go_wp2_with fail
      refine k7.mono ?_
      rintro e w8 ⟨rfl, q, h9⟩
      have hB8 : HasB w N n bo ta2 w8 := h9 ▸ HB7.out.drewN q
      clear h9 k7 HB7
      obtain ⟨l1, l2, l3, l4⟩ := hLQ
      rw [Hy.out, HO.out, Hz2.out] at l1 l2 l3 l4
      have HYP := Lib.hid (And.intro hB8 (And.intro l1 (And.intro l2 (And.intro l3 l4))))
      clear hB8 l1 l2 l3 l4
      have hz0 : 0 ≤ z := by omega
      have hz1 : z ≤ 1099511627776 := by omega
      clear hz
      obtain ⟨hB8, l1, l2, l3, l4⟩ := HYP.out
      have m1 := hb_take hB8 (lv : Int) z (by omega)
      rw [l1] at m1
      clear hB8 HYP
      go_wp2_with fail
      refine m1.mono ?_
      rintro e w10 ⟨rfl, hB10, _⟩
      clear m1
      have m2 := hb_left hB10 (lv : Int)
      rw [l2] at m2
      have HB10 := Lib.hid hB10
      clear hB10
      go_wp2_with fail
      refine m2.mono ?_
      rintro e w11 ⟨rfl, q, h9⟩
      have hB11 := h9 ▸ HB10.out.drewN q
      clear h9 m2 HB10
      have m3 := hb_take hB11 (lv : Int) 1 (by omega)
      rw [l3] at m3
      clear hB11
      go_wp2_with fail
      refine m3.mono ?_
      rintro e w12 ⟨rfl, hB12, _⟩
      clear m3
      have m4 := hb_take (ta := nextQ ta2 0 (lv : Int) z) hB12 (lv : Int) 0 (by omega)
      rw [l4] at m4
      clear hB12
      go_wp2_with fail
      refine m4.mono ?_
      rintro e w13 ⟨rfl, hB13, _⟩
      have Hb := Lib.hid hB13.lo
      clear m4 hB13 l1 l2 l3 l4
      go_wp2_with fail
      go_ret
      exact ⟨rfl, Hb.out⟩
    · rcases (show x < 0 ∨ 0 ≤ x by omega) with hx0 | hx0
      · rw [show takeQ n bo ta (lv : Int) x = 1 by rw [take_in hlv, if_pos hx0]] at k3
        have hLQ := lastQ (bo := bo) (ta := ta) hlv r1
        obtain ⟨l1, l2, l3, l4⟩ := hLQ
        generalize hT : ta lv = t at *
        generalize hO : bo lv = b0 at *
        clear hT hO
        have hz := Hzz.out
        rw [hz] at l1 l2 l3 l4
        clear hok
        have hz0 : 0 ≤ z := by omega
        have hz1 : z ≤ 1099511627776 := by omega
        have HL := Lib.hid (And.intro l1 (And.intro l2 (And.intro l3 l4)))
        clear l1 l2 l3 l4 hB5 hz
        go_wp2_with fail
        refine k3.mono ?_
        rintro e w6 ⟨rfl, hB6, _⟩
        have HYP := Lib.hid (And.intro (show HasB w N n bo ta w6 from hB6) HL.out)
        clear k3 hB6 HL
        obtain ⟨hB8, l1, l2, l3, l4⟩ := HYP.out
        have m1 := hb_take hB8 (lv : Int) z (by omega)
        rw [l1] at m1
        clear hB8 HYP
        go_wp2_with fail
        refine m1.mono ?_
        rintro e w10 ⟨rfl, hB10, _⟩
        clear m1
        have m2 := hb_left hB10 (lv : Int)
        rw [l2] at m2
        have HB10 := Lib.hid hB10
        clear hB10
        go_wp2_with fail
        refine m2.mono ?_
        rintro e w11 ⟨rfl, q, h9⟩
        have hB11 := h9 ▸ HB10.out.drewN q
        clear h9 m2 HB10
        have m3 := hb_take hB11 (lv : Int) 1 (by omega)
        rw [l3] at m3
        clear hB11
        go_wp2_with fail
        refine m3.mono ?_
        rintro e w12 ⟨rfl, hB12, _⟩
        clear m3
        have m4 := hb_take (ta := nextQ ta 0 (lv : Int) z) hB12 (lv : Int) 0 (by omega)
        rw [l4] at m4
        clear hB12
        go_wp2_with fail
        refine m4.mono ?_
        rintro e w13 ⟨rfl, hB13, _⟩
        have Hb := Lib.hid hB13.lo
        clear m4 hB13 l1 l2 l3 l4
        go_wp2_with fail
        go_ret
        exact ⟨rfl, Hb.out⟩
      · rw [show takeQ n bo ta (lv : Int) x = 5 by rw [take_in hlv, if_neg (by omega), if_neg (by omega)]] at k3
        have hLQ := lastQ (bo := bo) (ta := ta) hlv r1
        obtain ⟨l1, l2, l3, l4⟩ := hLQ
        generalize hT : ta lv = t at *
        generalize hO : bo lv = b0 at *
        clear hT hO
        have hz := Hzz.out
        rw [hz] at l1 l2 l3 l4
        have hzx : z < x := by omega
        clear hok
        have hz0 : 0 ≤ z := by omega
        have hz1 : z ≤ 1099511627776 := by omega
        have HL := Lib.hid (And.intro l1 (And.intro l2 (And.intro l3 l4)))
        clear l1 l2 l3 l4 hB5 hz
        go_wp2_with fail
        refine k3.mono ?_
        rintro e w6 ⟨rfl, hB6, _⟩
        have HYP := Lib.hid (And.intro (show HasB w N n bo ta w6 from hB6) HL.out)
        clear k3 hB6 HL
        obtain ⟨hB8, l1, l2, l3, l4⟩ := HYP.out
        have m1 := hb_take hB8 (lv : Int) z (by omega)
        rw [l1] at m1
        clear hB8 HYP
        go_wp2_with fail
        refine m1.mono ?_
        rintro e w10 ⟨rfl, hB10, _⟩
        clear m1
        have m2 := hb_left hB10 (lv : Int)
        rw [l2] at m2
        have HB10 := Lib.hid hB10
        clear hB10
        go_wp2_with fail
        refine m2.mono ?_
        rintro e w11 ⟨rfl, q, h9⟩
        have hB11 := h9 ▸ HB10.out.drewN q
        clear h9 m2 HB10
        have m3 := hb_take hB11 (lv : Int) 1 (by omega)
        rw [l3] at m3
        clear hB11
        go_wp2_with fail
        refine m3.mono ?_
        rintro e w12 ⟨rfl, hB12, _⟩
        clear m3
        have m4 := hb_take (ta := nextQ ta 0 (lv : Int) z) hB12 (lv : Int) 0 (by omega)
        rw [l4] at m4
        clear hB12
        go_wp2_with fail
        refine m4.mono ?_
        rintro e w13 ⟨rfl, hB13, _⟩
        have Hb := Lib.hid hB13.lo
        clear m4 hB13 l1 l2 l3 l4
        go_wp2_with fail
        go_ret
        exact ⟨rfl, Hb.out⟩
end Go.Proofs.Ytihbfkiofdancaa
