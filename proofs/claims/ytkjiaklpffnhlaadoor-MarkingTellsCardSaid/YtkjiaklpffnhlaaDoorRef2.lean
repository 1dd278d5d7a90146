/-
  The document's answer of layer 1, written in Go: joins and meets, told by the plain functions that tell the program.
-/
import Derived.Test.YtkjiaklpffnhlaaDoorRef1
import Derived.RegionCalls
import Derived.Deep.RegionWith
namespace Go.Proofs.YtkjiaklpffnhlaaDoor
open Go.RowKit

theorem mod_yes {x k : Nat} (h : x.testBit k = true) : x % 2 ^ (k + 1) = x % 2 ^ k + 2 ^ k := by
  rw [test_div, decide_eq_true_eq] at h
  rw [Nat.mod_pow_succ, h, Nat.mul_one]
theorem mod_no {x k : Nat} (h : x.testBit k = false) : x % 2 ^ (k + 1) = x % 2 ^ k := by
  rw [test_div, decide_eq_false_iff_not] at h
  have h0 : x / 2 ^ k % 2 = 0 := by omega
  rw [Nat.mod_pow_succ, h0, Nat.mul_zero, Nat.add_zero]
theorem wrap_yes {x k : Nat} (hk : k < 64) : IntKind.u64.wrap (((x % 2 ^ k : Nat) : Int) + (2 : Int) ^ k) = ((x % 2 ^ k + 2 ^ k : Nat) : Int) := by
  have hpi : ((2 ^ k : Nat) : Int) = (2 : Int) ^ k := by push_cast; rfl
  rw [← hpi]
  have h1 : x % 2 ^ k < 2 ^ k := Nat.mod_lt _ (Nat.two_pow_pos _)
  have h2 : 2 ^ (k + 1) ≤ 2 ^ 64 := Nat.pow_le_pow_right (by omega) (by omega)
  have h3 : 2 ^ (k + 1) = 2 ^ k + 2 ^ k := by rw [Nat.pow_succ]; omega
  rw [IntKind.wrap_u64]
  omega
theorem mod_all {x : Nat} (h : x < 18446744073709551616) : x % 2 ^ 64 = x := Nat.mod_eq_of_lt h

/-- What the loop holds: both boxes, the label that grows, the result's own cells. -/
def Acc (H : Nat) (la lb lv : Int) (a b x : Nat) (w wr : World) : Prop :=
  wr.cell? ⟨H, 0, none⟩ = some (.int .i64 la) ∧ wr.cell? ⟨H, 1, none⟩ = some (.int .u64 a) ∧ wr.cell? ⟨H + 1, 0, none⟩ = some (.int .i64 lb) ∧ wr.cell? ⟨H + 1, 1, none⟩ = some (.int .u64 b)
  ∧ wr.cell? ⟨H + 1 + 1 + 1, 0, none⟩ = some (.int .i64 lv) ∧ wr.cell? ⟨H + 1 + 1 + 1, 1, none⟩ = some (.int .u64 x) ∧ wr.frozen? ⟨H + 1 + 1 + 1, 1, none⟩ = false
  ∧ wr.cell? ⟨H + 1 + 1, 0, none⟩ = some (.int .i64 0) ∧ wr.cell? ⟨H + 1 + 1, 1, none⟩ = some (.int .u64 0) ∧ wr.frozen? ⟨H + 1 + 1, 0, none⟩ = false ∧ wr.frozen? ⟨H + 1 + 1, 1, none⟩ = false
  ∧ H + 4 ≤ wr.heap.size ∧ Below H w wr
theorem Acc.below {H : Nat} {la lb lv : Int} {a b x : Nat} {w wr W : World} (h : Acc H la lb lv a b x w wr) (hb : Below wr.heap.size wr W) : Acc H la lb lv a b x w W := by
  obtain ⟨h1, h2, h3, h4, h5, h6, h7, h8, h9, h10, h11, h12, h13⟩ := h
  exact ⟨(hb.cell (p := ⟨H, 0, none⟩) (by simp; omega)).trans h1, (hb.cell (p := ⟨H, 1, none⟩) (by simp; omega)).trans h2, (hb.cell (p := ⟨H + 1, 0, none⟩) (by simp; omega)).trans h3, (hb.cell (p := ⟨H + 1, 1, none⟩) (by simp; omega)).trans h4,
    (hb.cell (p := ⟨H + 1 + 1 + 1, 0, none⟩) (by simp; omega)).trans h5, (hb.cell (p := ⟨H + 1 + 1 + 1, 1, none⟩) (by simp; omega)).trans h6, (hb.frozen (p := ⟨H + 1 + 1 + 1, 1, none⟩) (by simp; omega)).trans h7,
    (hb.cell (p := ⟨H + 1 + 1, 0, none⟩) (by simp; omega)).trans h8, (hb.cell (p := ⟨H + 1 + 1, 1, none⟩) (by simp; omega)).trans h9, (hb.frozen (p := ⟨H + 1 + 1, 0, none⟩) (by simp; omega)).trans h10, (hb.frozen (p := ⟨H + 1 + 1, 1, none⟩) (by simp; omega)).trans h11,
    by have := hb.size; omega, h13.trans (hb.mono (by omega))⟩
theorem Acc.put {H : Nat} {la lb lv : Int} {a b x : Nat} {w wr : World} (h : Acc H la lb lv a b x w wr) (y : Nat) : Acc H la lb lv a b y w (wr.setCell ⟨H + 1 + 1 + 1, 1, none⟩ (.int .u64 y)).drew := by
  obtain ⟨h1, h2, h3, h4, h5, h6, h7, h8, h9, h10, h11, h12, h13⟩ := h
  exact ⟨by go_simp, by go_simp, by go_simp, by go_simp, by go_simp, by go_simp, by go_simp, by go_simp, by go_simp, by go_simp, by go_simp, by simpa using h12, (h13.setCell (p := ⟨H + 1 + 1 + 1, 1, none⟩) (by simp; omega) _).drew⟩
theorem Acc.drew {H : Nat} {la lb lv : Int} {a b x : Nat} {w wr : World} (h : Acc H la lb lv a b x w wr) : Acc H la lb lv a b x w wr.drew := h.below (Below.refl _ _).drew

set_option maxRecDepth 100000 in
set_option maxHeartbeats 8000000 in
theorem rjoin_any (la lb : Int) (a b : Nat) (w : World) (ha : a < 18446744073709551616) (hb : b < 18446744073709551616) :
    Calls Tryd.prog 23 #[.agg #[.int .i64 la, .int .u64 a], .agg #[.int .i64 lb, .int .u64 b]] w fun e w' => e = .returned (.agg #[.int .i64 (maxI la lb), .int .u64 (bits .or .u64 a b)]) ∧ Below w.heap.size w w' := by
  rw [u64_or_nat a b ha hb]
  have hab : a ||| b < 18446744073709551616 := Nat.or_lt_two_pow (n := 64) ha hb
  clear ha hb
  by_cases hlv : la < lb
  · have hv : maxI la lb = lb := if_pos hlv
    rw [hv]
    clear hv
    have hacc : Acc w.heap.size la lb lb a b 0 w ((((w.alloc (.cells #[.int .i64 la, .int .u64 a] 27)).alloc (.cells #[.int .i64 lb, .int .u64 b] 27)).alloc (.cells #[.int .i64 0, .int .u64 0] 27)).alloc (.cells #[.int .i64 lb, .int .u64 0] 27)) :=
      ⟨by go_simp, by go_simp, by go_simp, by go_simp, by go_simp, by go_simp, by go_simp, by go_simp, by go_simp, by go_simp, by go_simp, by simp, (((((Below.refl _ _).alloc (Nat.le_refl _) _).alloc (by simp) _).alloc (by simp; omega) _).alloc (by simp; omega) _)⟩
    have Hac := Lib.hid hacc
    clear hacc
    go_enter Tryd.func23, Tryd.ntmps23
    go_wp2
    go_loopw [6] (fun i wr => ∃ k : Nat, k ≤ 64 ∧ i = .int .i64 k ∧ Acc w.heap.size la lb lb a b ((a ||| b) % 2 ^ k) w wr) (fun i _ => 64 - (intOf i).toNat)
    case atStart => exact ⟨0, by omega, rfl, by rw [Nat.pow_zero, Nat.mod_one]; exact Hac.out⟩
    case round =>
      obtain ⟨k, hk, rfl, hacc⟩ := hrel
      have Hacc := Lib.hid hacc
      obtain ⟨a0, a1, b0, b1, o0, o1, f1, r0, r1, g0, g1, hz, hbw⟩ := hacc
      by_cases hlt : k < 64
      · obtain ⟨x, hx⟩ : ∃ x, a.testBit k = x := ⟨_, rfl⟩
        obtain ⟨y, hy⟩ : ∃ y, b.testBit k = y := ⟨_, rfl⟩
        have hyes : (a ||| b).testBit k = true → (a ||| b) % 2 ^ (k + 1) = (a ||| b) % 2 ^ k + 2 ^ k := mod_yes
        have hno : (a ||| b).testBit k = false → (a ||| b) % 2 ^ (k + 1) = (a ||| b) % 2 ^ k := mod_no
        rw [Nat.testBit_or, hx, hy] at hyes hno
        have hwy := wrap_yes (x := a ||| b) hlt
        generalize (a ||| b) % 2 ^ k = q at hyes hno hwy Hacc o1
        have Hx := Lib.hid hx
        have Hy := Lib.hid hy
        have Hyes := Lib.hid hyes
        have Hno := Lib.hid hno
        have Hwy := Lib.hid hwy
        clear hx hy hyes hno hwy
        go_wp2_with fail
        refine (rhas_any la a k _ hlt).mono ?_
        rintro e w2 ⟨rfl, hb2⟩
        rw [Hx.out]
        have acc2 := Hacc.out.below hb2
        have Acc2 := Lib.hid acc2
        clear a0 a1 b0 b1 o0 o1 f1 r0 r1 g0 g1 hz hbw
        obtain ⟨a0, a1, b0, b1, o0, o1, f1, r0, r1, g0, g1, hz, hbw⟩ := acc2
        cases x
        · go_wp2_with fail
          refine (rhas_any lb b k _ hlt).mono ?_
          rintro e w3 ⟨rfl, hb3⟩
          rw [Hy.out]
          have acc3 := Acc2.out.below hb3
          have Acc3 := Lib.hid acc3
          clear a0 a1 b0 b1 o0 o1 f1 r0 r1 g0 g1 hz hbw
          obtain ⟨a0, a1, b0, b1, o0, o1, f1, r0, r1, g0, g1, hz, hbw⟩ := acc3
          cases y
          · go_wp2
            go_roundw
            case rel =>
              refine ⟨k + 1, by omega, by go_num, ?_⟩
              rw [Hno.out rfl]
              exact Acc3.out
            case measure => simp [intOf]; omega
          · go_wp2_with fail
            have hlx : w.heap.size + 1 + 1 + 1 < w3.heap.size := by omega
            go_region_with (first | (go_at_call 42; refine (rbit_any k _ hlt).mono ?_; rintro e wz ⟨rfl, rfl⟩))
            all_goals
              go_wp2
              go_roundw
              case rel =>
                refine ⟨k + 1, by omega, by go_num, ?_⟩
                rw [Hyes.out rfl, Hwy.out]
                exact Acc3.out.put _
              case measure => simp [intOf]; omega
        · go_wp2_with fail
          have hlx : w.heap.size + 1 + 1 + 1 < w2.heap.size := by omega
          go_region_with (first | (go_at_call 42; refine (rbit_any k _ hlt).mono ?_; rintro e wz ⟨rfl, rfl⟩))
          all_goals
            go_wp2
            go_roundw
            case rel =>
              refine ⟨k + 1, by omega, by go_num, ?_⟩
              rw [Hyes.out rfl, Hwy.out]
              exact Acc2.out.put _
            case measure => simp [intOf]; omega
      · obtain rfl : k = 64 := by omega
        have hall : (a ||| b) % 2 ^ 64 = a ||| b := mod_all hab
        have Hall := Lib.hid hall
        clear hall
        have hz1 : w.heap.size + 1 + 1 < wr.heap.size := by omega
        rw [Hall.out] at o1
        go_wp2
        exact bodyPost_ret (v := .agg #[.int .i64 lb, .int .u64 ((a ||| b : Nat) : Int)]) (by simp [results, Tryd.results23, go_sem, r0, r1]) rfl ⟨rfl, (hbw.setCell (p := ⟨w.heap.size + 1 + 1, 0, none⟩) (by simp; omega) _).setCell (p := ⟨w.heap.size + 1 + 1, 1, none⟩) (by simp; omega) _⟩
  · have hv : maxI la lb = la := if_neg hlv
    rw [hv]
    clear hv
    have hacc : Acc w.heap.size la lb la a b 0 w ((((w.alloc (.cells #[.int .i64 la, .int .u64 a] 27)).alloc (.cells #[.int .i64 lb, .int .u64 b] 27)).alloc (.cells #[.int .i64 0, .int .u64 0] 27)).alloc (.cells #[.int .i64 la, .int .u64 0] 27)) :=
      ⟨by go_simp, by go_simp, by go_simp, by go_simp, by go_simp, by go_simp, by go_simp, by go_simp, by go_simp, by go_simp, by go_simp, by simp, (((((Below.refl _ _).alloc (Nat.le_refl _) _).alloc (by simp) _).alloc (by simp; omega) _).alloc (by simp; omega) _)⟩
    have Hac := Lib.hid hacc
    clear hacc
    go_enter Tryd.func23, Tryd.ntmps23
    go_wp2
    go_loopw [6] (fun i wr => ∃ k : Nat, k ≤ 64 ∧ i = .int .i64 k ∧ Acc w.heap.size la lb la a b ((a ||| b) % 2 ^ k) w wr) (fun i _ => 64 - (intOf i).toNat)
    case atStart => exact ⟨0, by omega, rfl, by rw [Nat.pow_zero, Nat.mod_one]; exact Hac.out⟩
    case round =>
      obtain ⟨k, hk, rfl, hacc⟩ := hrel
      have Hacc := Lib.hid hacc
      obtain ⟨a0, a1, b0, b1, o0, o1, f1, r0, r1, g0, g1, hz, hbw⟩ := hacc
      by_cases hlt : k < 64
      · obtain ⟨x, hx⟩ : ∃ x, a.testBit k = x := ⟨_, rfl⟩
        obtain ⟨y, hy⟩ : ∃ y, b.testBit k = y := ⟨_, rfl⟩
        have hyes : (a ||| b).testBit k = true → (a ||| b) % 2 ^ (k + 1) = (a ||| b) % 2 ^ k + 2 ^ k := mod_yes
        have hno : (a ||| b).testBit k = false → (a ||| b) % 2 ^ (k + 1) = (a ||| b) % 2 ^ k := mod_no
        rw [Nat.testBit_or, hx, hy] at hyes hno
        have hwy := wrap_yes (x := a ||| b) hlt
        generalize (a ||| b) % 2 ^ k = q at hyes hno hwy Hacc o1
        have Hx := Lib.hid hx
        have Hy := Lib.hid hy
        have Hyes := Lib.hid hyes
        have Hno := Lib.hid hno
        have Hwy := Lib.hid hwy
        clear hx hy hyes hno hwy
        go_wp2_with fail
        refine (rhas_any la a k _ hlt).mono ?_
        rintro e w2 ⟨rfl, hb2⟩
        rw [Hx.out]
        have acc2 := Hacc.out.below hb2
        have Acc2 := Lib.hid acc2
        clear a0 a1 b0 b1 o0 o1 f1 r0 r1 g0 g1 hz hbw
        obtain ⟨a0, a1, b0, b1, o0, o1, f1, r0, r1, g0, g1, hz, hbw⟩ := acc2
        cases x
        · go_wp2_with fail
          refine (rhas_any lb b k _ hlt).mono ?_
          rintro e w3 ⟨rfl, hb3⟩
          rw [Hy.out]
          have acc3 := Acc2.out.below hb3
          have Acc3 := Lib.hid acc3
          clear a0 a1 b0 b1 o0 o1 f1 r0 r1 g0 g1 hz hbw
          obtain ⟨a0, a1, b0, b1, o0, o1, f1, r0, r1, g0, g1, hz, hbw⟩ := acc3
          cases y
          · go_wp2
            go_roundw
            case rel =>
              refine ⟨k + 1, by omega, by go_num, ?_⟩
              rw [Hno.out rfl]
              exact Acc3.out
            case measure => simp [intOf]; omega
          · go_wp2_with fail
            have hlx : w.heap.size + 1 + 1 + 1 < w3.heap.size := by omega
            go_region_with (first | (go_at_call 42; refine (rbit_any k _ hlt).mono ?_; rintro e wz ⟨rfl, rfl⟩))
            all_goals
              go_wp2
              go_roundw
              case rel =>
                refine ⟨k + 1, by omega, by go_num, ?_⟩
                rw [Hyes.out rfl, Hwy.out]
                exact Acc3.out.put _
              case measure => simp [intOf]; omega
        · go_wp2_with fail
          have hlx : w.heap.size + 1 + 1 + 1 < w2.heap.size := by omega
          go_region_with (first | (go_at_call 42; refine (rbit_any k _ hlt).mono ?_; rintro e wz ⟨rfl, rfl⟩))
          all_goals
            go_wp2
            go_roundw
            case rel =>
              refine ⟨k + 1, by omega, by go_num, ?_⟩
              rw [Hyes.out rfl, Hwy.out]
              exact Acc2.out.put _
            case measure => simp [intOf]; omega
      · obtain rfl : k = 64 := by omega
        have hall : (a ||| b) % 2 ^ 64 = a ||| b := mod_all hab
        have Hall := Lib.hid hall
        clear hall
        have hz1 : w.heap.size + 1 + 1 < wr.heap.size := by omega
        rw [Hall.out] at o1
        go_wp2
        exact bodyPost_ret (v := .agg #[.int .i64 la, .int .u64 ((a ||| b : Nat) : Int)]) (by simp [results, Tryd.results23, go_sem, r0, r1]) rfl ⟨rfl, (hbw.setCell (p := ⟨w.heap.size + 1 + 1, 0, none⟩) (by simp; omega) _).setCell (p := ⟨w.heap.size + 1 + 1, 1, none⟩) (by simp; omega) _⟩
end Go.Proofs.YtkjiaklpffnhlaaDoor
