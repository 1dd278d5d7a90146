/-
  SectorCounts returns true, for any cut and any number: the walk.
-/
import Derived.Test.YtjmphdpeaahmfaaAwake7
import Derived.BigQuiet
import Derived.LoopIn
import Derived.Deep.LoopGhost
namespace Go.Proofs.Ytjmphdpeaahmfaa
open Go.RowKit Go.Maps

set_option maxRecDepth 100000 in
set_option maxHeartbeats 4000000 in
theorem scounts_walk (ca ct : Int) (n : Nat) (hn : n ≤ 255) (w : World) :
    Calls Try.prog 6 #[.agg #[.int .i64 ca, .int .i64 ct], .int .u8 (n : Int)] w fun e w' => e = .returned (.bool true) ∧ Below w.heap.size w w' := by
  have haw := awake7_any (w.alloc (.cells #[.int .i64 ca, .int .i64 ct] 31))
  have c0 : (w.alloc (.cells #[.int .i64 ca, .int .i64 ct] 31)).heap[w.heap.size]? = some (.cells #[.int .i64 ca, .int .i64 ct] 31 (0, 0)) := heap_alloc_new w _
  have hw0 : Below w.heap.size w (w.alloc (.cells #[.int .i64 ca, .int .i64 ct] 31)) := (Below.refl _ w).alloc (Nat.le_refl _) _
  go_enter Try.func6, Try.ntmps6
  go_wp2_with fail
  generalize w.alloc (.cells #[.int .i64 ca, .int .i64 ct] 31) = w0 at haw c0 hw0 ⊢
  have hz := hw0.size
  have hl0 : w.heap.size < w0.heap.size := (Array.getElem?_eq_some_iff.1 c0).1
  obtain ⟨b, hb⟩ : ∃ b, w.heap.size = b := ⟨_, rfl⟩
  rw [hb] at c0 hl0 hw0 ⊢
  have hK : Hid (∀ W, Below w0.heap.size w0 W → W.cell? ⟨b, 0, none⟩ = some (.int .i64 ca) ∧ W.cell? ⟨b, 1, none⟩ = some (.int .i64 ct) ∧ Below b w W) := Lib.hid fun W hW => by
    have c0' := (hW.block b hl0).trans c0
    refine ⟨?_, ?_, hw0.trans (hW.mono (by omega))⟩ <;> rw [Lib.cell_of_heap c0'] <;> rfl
  refine haw.mono ?_
  rintro e w1 ⟨rfl, hb1⟩
  clear haw c0
  go_wp2_with fail
  refine (snew_any w0.heap.size w1 hb1.size 1 (by omega) (by omega)).mono ?_
  rintro e w2 ⟨N, g, rfl, hD2, hb2, _⟩
  have hB2 := hb1.trans (hb2.mono hb1.size)
  obtain ⟨k0, k1, k2⟩ := hK.out w2 hB2
  clear hb1 hb2
  go_wp2_with fail
  refine (arm_any w0.heap.size N g _ w2 ca ct hD2).mono ?_
  rintro e w3 ⟨rfl, hD3, t3⟩
  have hB3 := hD2.turned_below hB2 t3
  have hD3' : ∃ ss, ss.length = 1 ∧ DiskAt w3 w0.heap.size N g ⟨ss, ca, ct, false, 0, 0⟩ := ⟨_, rfl, hD3⟩
  clear hD2 hD3 t3 hB2 k0 k1 k2
  go_wp2_with fail
  obtain ⟨ss0, hss0, hD3⟩ := hD3'
  go_loopw [7, 8, 9] (fun iv _ _ wr => ∃ (i : Nat) (ss : List (List UInt8)), 1 ≤ i ∧ i ≤ n + 1 ∧ iv = .int .i64 i ∧ ss.length = 1 ∧ DiskAt wr w0.heap.size N g ⟨ss, ca, ct, false, (i : Int) - 1, 0⟩ ∧ Below w0.heap.size w0 wr) (fun iv _ _ _ => n + 1 - (intOf iv).toNat)
  case atStart => exact ⟨1, ss0, by omega, by omega, rfl, hss0, hD3, hB3⟩
  case round =>
    obtain ⟨i, ss, hi1, hi2, rfl, hss, hD, hB⟩ := hrel
    clear hD3 hB3 hss0
    obtain ⟨k0, k1, k2⟩ := hK.out wr hB
    by_cases hlt : i ≤ n
    · have hchk : checkD ⟨ss, ca, ct, false, (i : Int) - 1, 0⟩ 0 = 0 := check_zero.2 ⟨rfl, by omega, by show (0 : Int) < ss.length; omega⟩
      have hwr := swrite_any w0.heap.size N g _ wr hD hB.size (show (i : Int) - 1 ≤ 1000000 by omega) 0 ⟨#[120]⟩ (by decide)
      by_cases hc : ca = (i : Int)
      · obtain ⟨e1, e2⟩ := write_hit (x := (⟨#[120]⟩ : ByteArray).data.toList) hchk (by decide) (show (i : Int) - 1 + 1 - 0 = ca by omega)
        rw [e1, e2] at hwr
        have q1 : (ca == (i : Int)) = true := by rw [beq_iff_eq]; exact hc
        have q2 : (ca != (i : Int)) = false := by rw [bne_eq_false_iff_eq]; exact hc
        have HD := Lib.hid (And.intro hD hB)
        have Hc := Lib.hid hc
        clear hc e1 e2 hchk hD hB k0 k1
        go_wp2_with fail
        refine hwr.mono ?_
        rintro e w4 ⟨rfl, hD4, t4⟩
        have hB4 := HD.out.1.turned_below HD.out.2 t4
        obtain ⟨k0, k1, k2⟩ := hK.out w4 hB4
        have hdn : ∀ q, Calls Try.prog 20 #[.pointer (some ⟨N, 0, none⟩)] (w4.drewN q) fun e w' => e = .returned (.bool true) ∧ w' = w4.drewN q := fun q => down_any _ _ _ _ _ (hD4.below (below_drewN (Below.refl w4.heap.size _) q))
        have HD4 := Lib.hid (And.intro hD4 hB4)
        clear hD4 hB4 t4 HD hwr
        go_wp2_with fail
        go_quiet (first | (go_at_call 20; exact Calls.quiet_of_same (hdn _)))
        obtain ⟨hD4, hB4⟩ := HD4.out
        have hD5 := hD4.below (below_drewN (Below.refl w4.heap.size _) nq)
        have hB5 := below_drewN hB4 nq
        have hlen := (show (ss.set (Int.toNat 0) (List.take (tornN ct) (fillD [120]) ++ List.drop (tornN ct) (ss.getD (Int.toNat 0) []))).length = 1 by rw [List.length_set]; exact hss)
        change DiskAt _ _ _ _ ⟨ss.set (Int.toNat 0) (List.take (tornN ct) (fillD [120]) ++ List.drop (tornN ct) (ss.getD (Int.toNat 0) [])), 0, 0, true, (i : Int) - 1 + 1, 0⟩ at hD5
        generalize ss.set (Int.toNat 0) (List.take (tornN ct) (fillD [120]) ++ List.drop (tornN ct) (ss.getD (Int.toNat 0) [])) = s5 at hD5 hlen
        generalize w4.drewN nq = w5 at hD5 hB5 ⊢
        clear hD4 hB4 HD4 hdn k0 k1
        have hdn := down_any _ _ _ _ _ hD5
        have hst := sstart_any _ _ _ _ _ hD5
        have HD5 := Lib.hid (And.intro hD5 hB5)
        clear hD5 hB5
        go_wp2_with (go_at_call 20; refine hdn.mono ?_; rintro e w9 ⟨rfl, h9⟩; obtain rfl := h9.symm; clear h9)
        refine hst.mono ?_
        rintro e w6 ⟨rfl, hD6, t6⟩
        have hB6 := HD5.out.1.turned_below HD5.out.2 t6
        rw [show startD ⟨s5, 0, 0, true, (i : Int) - 1 + 1, 0⟩ = ⟨s5, 0, 0, false, (i : Int), (i : Int)⟩ by unfold startD; rw [Int.sub_add_cancel]] at hD6
        clear hst hdn t6 HD5 k2 q1 q2
        go_wp2_with fail
        go_loopw [9] (fun kv W => ∃ (k : Nat) (s : List (List UInt8)), k ≤ 5 ∧ kv = .int .i64 k ∧ s.length = 1 ∧ DiskAt W w0.heap.size N g ⟨s, 0, 0, false, (i : Int) + k, (i : Int)⟩ ∧ Below w0.heap.size w0 W) (fun kv _ => 5 - (intOf kv).toNat)
        case atStart => exact ⟨0, s5, by omega, rfl, hlen, by simpa using hD6, hB6⟩
        case round =>
          clear hD6 hB6 hlen hlt
          obtain ⟨k, s, hk, rfl, hsl, hD, hB⟩ := hrel
          by_cases hk5 : k < 5
          · have hchk : checkD ⟨s, 0, 0, false, (i : Int) + k, (i : Int)⟩ 0 = 0 := check_zero.2 ⟨rfl, by omega, by show (0 : Int) < s.length; omega⟩
            have hwr := swrite_any w0.heap.size N g _ _ hD hB.size (show (i : Int) + k ≤ 1000000 by omega) 0 ⟨#[121]⟩ (by decide)
            obtain ⟨e1, e2⟩ := write_miss (x := (⟨#[121]⟩ : ByteArray).data.toList) hchk (by decide) (show ¬ (i : Int) + k + 1 - i = 0 by omega)
            rw [e1, e2] at hwr
            have HD := Lib.hid (And.intro hD hB)
            clear hchk e1 e2 hD hB
            go_wp2_with fail
            refine hwr.mono ?_
            rintro e w8 ⟨rfl, hD8, t8⟩
            have hB8 := HD.out.1.turned_below HD.out.2 t8
            obtain ⟨s8, hs8, hD8⟩ : ∃ s8 : List (List UInt8), s8.length = 1 ∧ DiskAt w8 w0.heap.size N g ⟨s8, 0, 0, false, (i : Int) + k + 1, (i : Int)⟩ := ⟨_, by rw [List.length_set]; exact hsl, hD8⟩
            have H8 := Lib.hid (And.intro hD8 hB8)
            clear hD8 hB8 t8 HD hwr
            go_wp2
            go_roundw
            case rel => exact ⟨k + 1, s8, by omega, by go_num, hs8, by rw [show (i : Int) + ((k + 1 : Nat) : Int) = (i : Int) + k + 1 by omega]; exact H8.out.1, H8.out.2⟩
            case measure => simp [intOf]; omega
          · obtain rfl : k = 5 := by omega
            have hw5 := writes_any _ _ _ _ _ hD
            have Hb := Lib.hid (hK.out _ hB).2.2
            clear hD hB
            go_wp2_with (go_at_call 21; refine hw5.mono ?_; rintro e w9 ⟨rfl, h9⟩; obtain rfl := h9.symm; clear h9)
            go_ret
            refine ⟨?_, by rw [hb]; exact Hb.out⟩
            show Ending.returned (Value.bool _) = _
            congr 2
      · obtain ⟨e1, e2⟩ := write_miss (x := (⟨#[120]⟩ : ByteArray).data.toList) hchk (by decide) (show ¬ (i : Int) - 1 + 1 - 0 = ca by omega)
        rw [e1, e2] at hwr
        have q1 : (ca == (i : Int)) = false := by rw [beq_eq_false_iff_ne]; exact hc
        have q2 : (ca != (i : Int)) = true := by rw [bne_iff_ne]; exact hc
        have HD := Lib.hid (And.intro hD hB)
        clear hc e1 e2 hchk hD hB k0 k1
        go_wp2_with fail
        refine hwr.mono ?_
        rintro e w4 ⟨rfl, hD4, t4⟩
        have hB4 := HD.out.1.turned_below HD.out.2 t4
        obtain ⟨k0, k1, k2⟩ := hK.out w4 hB4
        obtain ⟨s4, hs4, hD4⟩ : ∃ s4 : List (List UInt8), s4.length = 1 ∧ DiskAt w4 w0.heap.size N g ⟨s4, ca, ct, false, (i : Int) - 1 + 1, 0⟩ := ⟨_, by rw [List.length_set]; exact hss, hD4⟩
        have hdn : ∀ q, Calls Try.prog 20 #[.pointer (some ⟨N, 0, none⟩)] (w4.drewN q) fun e w' => e = .returned (.bool false) ∧ w' = w4.drewN q := fun q => down_any _ _ _ _ _ (hD4.below (below_drewN (Below.refl w4.heap.size _) q))
        have HD4 := Lib.hid (And.intro hD4 hB4)
        clear hD4 hB4 t4 HD hwr
        go_wp2_with fail
        go_quiet (first | (go_at_call 20; exact Calls.quiet_of_same (hdn _)))
        obtain ⟨hD4, hB4⟩ := HD4.out
        have hD5 := hD4.below (below_drewN (Below.refl w4.heap.size _) nq)
        have hB5 := below_drewN hB4 nq
        generalize w4.drewN nq = w5 at hD5 hB5 ⊢
        clear hD4 hB4 HD4 hdn k0 k1
        have hdn := down_any _ _ _ _ _ hD5
        have HD5 := Lib.hid (And.intro hD5 hB5)
        clear hD5 hB5
        go_wp2_with (go_at_call 20; refine hdn.mono ?_; rintro e w9 ⟨rfl, h9⟩; obtain rfl := h9.symm; clear h9)
        go_roundw
        case rel => exact ⟨i + 1, s4, by omega, by omega, by go_num, hs4, by rw [show ((i + 1 : Nat) : Int) - 1 = (i : Int) - 1 + 1 by omega]; exact HD5.out.1, HD5.out.2⟩
        case measure => simp [intOf]; omega
    · obtain rfl : i = n + 1 := by omega
      have hw5 := writes_any _ _ _ _ _ hD
      rw [show ((n + 1 : Nat) : Int) - 1 = (n : Int) by omega] at hw5
      have Hb := Lib.hid k2
      clear hD hB k0 k1
      go_wp2_with (go_at_call 21; refine hw5.mono ?_; rintro e w9 ⟨rfl, h9⟩; obtain rfl := h9.symm; clear h9)
      go_ret
      refine ⟨?_, by rw [hb]; exact Hb.out⟩
      show Ending.returned (Value.bool _) = _
      congr 2
end Go.Proofs.Ytjmphdpeaahmfaa
