/-
  The document's answer of layer 1, written in Go: meets, told by the plain function that tells the program.
-/
import Derived.Test.YtkjiaklpffnhlaaDoorRef2
namespace Go.Proofs.YtkjiaklpffnhlaaDoor
open Go.RowKit

set_option maxRecDepth 100000 in
set_option maxHeartbeats 8000000 in
theorem rmeet_any (la lb : Int) (a b : Nat) (w : World) (ha : a < 18446744073709551616) (hb : b < 18446744073709551616) :
    Calls Tryd.prog 25 #[.agg #[.int .i64 la, .int .u64 a], .agg #[.int .i64 lb, .int .u64 b]] w fun e w' => e = .returned (.agg #[.int .i64 (minI la lb), .int .u64 (bits .and .u64 a b)]) ∧ Below w.heap.size w w' := by
  rw [u64_and_nat a b ha hb]
  have hab : a &&& b < 18446744073709551616 := Nat.lt_of_le_of_lt Nat.and_le_left ha
  clear ha hb
  by_cases hlv : lb < la
  · have hv : minI la lb = lb := if_pos hlv
    rw [hv]
    clear hv
    have hacc : Acc w.heap.size la lb lb a b 0 w ((((w.alloc (.cells #[.int .i64 la, .int .u64 a] 27)).alloc (.cells #[.int .i64 lb, .int .u64 b] 27)).alloc (.cells #[.int .i64 0, .int .u64 0] 27)).alloc (.cells #[.int .i64 lb, .int .u64 0] 27)) :=
      ⟨by go_simp, by go_simp, by go_simp, by go_simp, by go_simp, by go_simp, by go_simp, by go_simp, by go_simp, by go_simp, by go_simp, by simp, (((((Below.refl _ _).alloc (Nat.le_refl _) _).alloc (by simp) _).alloc (by simp; omega) _).alloc (by simp; omega) _)⟩
    have Hac := Lib.hid hacc
    clear hacc
    go_enter Tryd.func25, Tryd.ntmps25
    go_wp2
    go_loopw [6] (fun i wr => ∃ k : Nat, k ≤ 64 ∧ i = .int .i64 k ∧ Acc w.heap.size la lb lb a b ((a &&& b) % 2 ^ k) w wr) (fun i _ => 64 - (intOf i).toNat)
    case atStart => exact ⟨0, by omega, rfl, by rw [Nat.pow_zero, Nat.mod_one]; exact Hac.out⟩
    case round =>
      obtain ⟨k, hk, rfl, hacc⟩ := hrel
      have Hacc := Lib.hid hacc
      obtain ⟨a0, a1, b0, b1, o0, o1, f1, r0, r1, g0, g1, hz, hbw⟩ := hacc
      by_cases hlt : k < 64
      · obtain ⟨x, hx⟩ : ∃ x, a.testBit k = x := ⟨_, rfl⟩
        obtain ⟨y, hy⟩ : ∃ y, b.testBit k = y := ⟨_, rfl⟩
        have hyes : (a &&& b).testBit k = true → (a &&& b) % 2 ^ (k + 1) = (a &&& b) % 2 ^ k + 2 ^ k := mod_yes
        have hno : (a &&& b).testBit k = false → (a &&& b) % 2 ^ (k + 1) = (a &&& b) % 2 ^ k := mod_no
        rw [Nat.testBit_and, hx, hy] at hyes hno
        have hwy := wrap_yes (x := a &&& b) hlt
        generalize (a &&& b) % 2 ^ k = q at hyes hno hwy Hacc o1
        have Hx := Lib.hid hx
        have Hy := Lib.hid hy
        have Hyes := Lib.hid hyes
        have Hno := Lib.hid hno
        have Hwy := Lib.hid hwy
        clear hx hy hyes hno hwy
        go_wp2_with fail
        refine (rhas_any la a k _ hlt).mono ?_
        rintro e w2 ⟨rfl, hb2⟩
        rw [Hx.out]
        have acc2 := Hacc.out.below hb2
        have Acc2 := Lib.hid acc2
        clear a0 a1 b0 b1 o0 o1 f1 r0 r1 g0 g1 hz hbw
        obtain ⟨a0, a1, b0, b1, o0, o1, f1, r0, r1, g0, g1, hz, hbw⟩ := acc2
        cases x
        · go_wp2
          go_roundw
          case rel =>
            refine ⟨k + 1, by omega, by go_num, ?_⟩
            rw [Hno.out rfl]
            exact Acc2.out
          case measure => simp [intOf]; omega
        · go_wp2_with fail
          refine (rhas_any lb b k _ hlt).mono ?_
          rintro e w3 ⟨rfl, hb3⟩
          rw [Hy.out]
          have acc3 := Acc2.out.below hb3
          have Acc3 := Lib.hid acc3
          clear a0 a1 b0 b1 o0 o1 f1 r0 r1 g0 g1 hz hbw
          obtain ⟨a0, a1, b0, b1, o0, o1, f1, r0, r1, g0, g1, hz, hbw⟩ := acc3
          cases y
          · go_wp2
            go_roundw
            case rel =>
              refine ⟨k + 1, by omega, by go_num, ?_⟩
              rw [Hno.out rfl]
              exact Acc3.out
            case measure => simp [intOf]; omega
          · go_wp2_with fail
            have hlx : w.heap.size + 1 + 1 + 1 < w3.heap.size := by omega
            go_region_with (first | (go_at_call 42; refine (rbit_any k _ hlt).mono ?_; rintro e wz ⟨rfl, rfl⟩))
            all_goals
              go_wp2
              go_roundw
              case rel =>
                refine ⟨k + 1, by omega, by go_num, ?_⟩
                rw [Hyes.out rfl, Hwy.out]
                exact Acc3.out.put _
              case measure => simp [intOf]; omega
      · obtain rfl : k = 64 := by omega
        have hall : (a &&& b) % 2 ^ 64 = a &&& b := mod_all hab
        have Hall := Lib.hid hall
        clear hall
        have hz1 : w.heap.size + 1 + 1 < wr.heap.size := by omega
        rw [Hall.out] at o1
        go_wp2
        exact bodyPost_ret (v := .agg #[.int .i64 lb, .int .u64 ((a &&& b : Nat) : Int)]) (by simp [results, Tryd.results25, go_sem, r0, r1]) rfl ⟨rfl, (hbw.setCell (p := ⟨w.heap.size + 1 + 1, 0, none⟩) (by simp; omega) _).setCell (p := ⟨w.heap.size + 1 + 1, 1, none⟩) (by simp; omega) _⟩
  · have hv : minI la lb = la := if_neg hlv
    rw [hv]
    clear hv
    have hacc : Acc w.heap.size la lb la a b 0 w ((((w.alloc (.cells #[.int .i64 la, .int .u64 a] 27)).alloc (.cells #[.int .i64 lb, .int .u64 b] 27)).alloc (.cells #[.int .i64 0, .int .u64 0] 27)).alloc (.cells #[.int .i64 la, .int .u64 0] 27)) :=
      ⟨by go_simp, by go_simp, by go_simp, by go_simp, by go_simp, by go_simp, by go_simp, by go_simp, by go_simp, by go_simp, by go_simp, by simp, (((((Below.refl _ _).alloc (Nat.le_refl _) _).alloc (by simp) _).alloc (by simp; omega) _).alloc (by simp; omega) _)⟩
    have Hac := Lib.hid hacc
    clear hacc
    go_enter Tryd.func25, Tryd.ntmps25
    go_wp2
    go_loopw [6] (fun i wr => ∃ k : Nat, k ≤ 64 ∧ i = .int .i64 k ∧ Acc w.heap.size la lb la a b ((a &&& b) % 2 ^ k) w wr) (fun i _ => 64 - (intOf i).toNat)
    case atStart => exact ⟨0, by omega, rfl, by rw [Nat.pow_zero, Nat.mod_one]; exact Hac.out⟩
    case round =>
      obtain ⟨k, hk, rfl, hacc⟩ := hrel
      have Hacc := Lib.hid hacc
      obtain ⟨a0, a1, b0, b1, o0, o1, f1, r0, r1, g0, g1, hz, hbw⟩ := hacc
      by_cases hlt : k < 64
      · obtain ⟨x, hx⟩ : ∃ x, a.testBit k = x := ⟨_, rfl⟩
        obtain ⟨y, hy⟩ : ∃ y, b.testBit k = y := ⟨_, rfl⟩
        have hyes : (a &&& b).testBit k = true → (a &&& b) % 2 ^ (k + 1) = (a &&& b) % 2 ^ k + 2 ^ k := mod_yes
        have hno : (a &&& b).testBit k = false → (a &&& b) % 2 ^ (k + 1) = (a &&& b) % 2 ^ k := mod_no
        rw [Nat.testBit_and, hx, hy] at hyes hno
        have hwy := wrap_yes (x := a &&& b) hlt
        generalize (a &&& b) % 2 ^ k = q at hyes hno hwy Hacc o1
        have Hx := Lib.hid hx
        have Hy := Lib.hid hy
        have Hyes := Lib.hid hyes
        have Hno := Lib.hid hno
        have Hwy := Lib.hid hwy
        clear hx hy hyes hno hwy
        go_wp2_with fail
        refine (rhas_any la a k _ hlt).mono ?_
        rintro e w2 ⟨rfl, hb2⟩
        rw [Hx.out]
        have acc2 := Hacc.out.below hb2
        have Acc2 := Lib.hid acc2
        clear a0 a1 b0 b1 o0 o1 f1 r0 r1 g0 g1 hz hbw
        obtain ⟨a0, a1, b0, b1, o0, o1, f1, r0, r1, g0, g1, hz, hbw⟩ := acc2
        cases x
        · go_wp2
          go_roundw
          case rel =>
            refine ⟨k + 1, by omega, by go_num, ?_⟩
            rw [Hno.out rfl]
            exact Acc2.out
          case measure => simp [intOf]; omega
        · go_wp2_with fail
          refine (rhas_any lb b k _ hlt).mono ?_
          rintro e w3 ⟨rfl, hb3⟩
          rw [Hy.out]
          have acc3 := Acc2.out.below hb3
          have Acc3 := Lib.hid acc3
          clear a0 a1 b0 b1 o0 o1 f1 r0 r1 g0 g1 hz hbw
          obtain ⟨a0, a1, b0, b1, o0, o1, f1, r0, r1, g0, g1, hz, hbw⟩ := acc3
          cases y
          · go_wp2
            go_roundw
            case rel =>
              refine ⟨k + 1, by omega, by go_num, ?_⟩
              rw [Hno.out rfl]
              exact Acc3.out
            case measure => simp [intOf]; omega
          · go_wp2_with fail
            have hlx : w.heap.size + 1 + 1 + 1 < w3.heap.size := by omega
            go_region_with (first | (go_at_call 42; refine (rbit_any k _ hlt).mono ?_; rintro e wz ⟨rfl, rfl⟩))
            all_goals
              go_wp2
              go_roundw
              case rel =>
                refine ⟨k + 1, by omega, by go_num, ?_⟩
                rw [Hyes.out rfl, Hwy.out]
                exact Acc3.out.put _
              case measure => simp [intOf]; omega
      · obtain rfl : k = 64 := by omega
        have hall : (a &&& b) % 2 ^ 64 = a &&& b := mod_all hab
        have Hall := Lib.hid hall
        clear hall
        have hz1 : w.heap.size + 1 + 1 < wr.heap.size := by omega
        rw [Hall.out] at o1
        go_wp2
        exact bodyPost_ret (v := .agg #[.int .i64 la, .int .u64 ((a &&& b : Nat) : Int)]) (by simp [results, Tryd.results25, go_sem, r0, r1]) rfl ⟨rfl, (hbw.setCell (p := ⟨w.heap.size + 1 + 1, 0, none⟩) (by simp; omega) _).setCell (p := ⟨w.heap.size + 1 + 1, 1, none⟩) (by simp; omega) _⟩
end Go.Proofs.YtkjiaklpffnhlaaDoor
