/-
  FrameFeeds returns true, for any list of texts and any number: the walk.
-/
import Derived.Test.YtflmbihdmmfcpaaFReset
import Derived.Test.YtflmbihdmmfcpaaR6C
import Derived.Test.YtflmbihdmmfcpaaFew6
namespace Go.Proofs.Ytflmbihdmmfcpaa
open Go.RowKit

theorem eq_intF {a b : Nat} (h : a = b) : ((a : Int) == (b : Int)) = true := by rw [h]; exact beq_self_eq_true _

set_option maxRecDepth 100000 in
set_option maxHeartbeats 4000000 in
theorem ffeeds_walk (B n c : Nat) (A : Option Addr) (ss : List ByteArray) (z : Int) (m : Int) (w : World) (hB : B ≤ w.heap.size) (h1 : Strs w B A n c ss) (hsz : ∀ s ∈ ss, s.size ≤ 140737488351232) (hm : w.cell? ⟨0, 0, none⟩ = some (.int .i64 m)) :
    Calls Try.prog 3 #[.slice A n c, .int .i64 z] w fun e w' => e = .returned (.bool true) ∧ Below w.heap.size w w' := by
  have haw := awake6_any m w hm
  have hlen := h1.len
  have hfw := fun W hW => few6_any B n c A ss W (h1.below (w' := W) hW) hsz
  have Hfw := Lib.hid hfw
  clear hfw hm
  go_enter Try.func3, Try.ntmps3
  go_wp2_with fail
  refine haw.mono ?_
  rintro e w1 ⟨rfl, hw1⟩
  clear haw
  have hfew := Hfw.out w1 (hw1.mono hB)
  cases hfb : fewB ss with
  | false =>
    rw [hfb] at hfew
    clear hfb
    go_wp2_with fail
    refine hfew.mono ?_
    rintro e w2 ⟨rfl, h2⟩
    obtain rfl := h2.symm
    clear h2 hfew
    go_wp2
    go_ret
    exact ⟨rfl, hw1⟩
  | true =>
    rw [hfb] at hfew
    unfold fewB at hfb
    simp only [decide_eq_true_eq] at hfb
    obtain ⟨hn100, htot⟩ := hfb
    clear hsz Hfw
    go_wp2_with fail
    refine hfew.mono ?_
    rintro e w2 ⟨rfl, h2⟩
    obtain rfl := h2.symm
    clear h2 hfew
    go_wp2_with fail
    refine (frnew_any w.heap.size w1 hw1.size).mono ?_
    rintro e w3 ⟨rfl, hF, hb3, hl3⟩
    have hbw3 := hw1.trans (hb3.mono hw1.size)
    have hz1 := hw1.size
    obtain ⟨N, hN⟩ : ∃ N, w1.heap.size = N := ⟨_, rfl⟩
    rw [hN] at hF hl3 hz1
    rw [hN]
    clear hb3 hN hw1
    go_wp2
    go_loopw [6, 7, 8, 9, 10, 11, 12] (fun rv av iv _ _ _ _ wr => ∃ (i k : Nat) (r : List UInt8) (v : Value), i ≤ n ∧ k + i = totF (ss.take i) ∧ r.length ≤ k ∧ linesQ r = [r] ∧ rv = .string ⟨r.toArray⟩ ∧ av = .int .i64 k ∧ iv = .int .i64 i ∧ FramerAt wr w.heap.size N v r (k : Int) ∧ Below w.heap.size w wr) (fun _ _ iv _ _ _ _ _ => n - (intOf iv).toNat)
    case atStart => exact ⟨0, 0, [], _, by omega, by simp [totF], by simp, rfl, rfl, rfl, rfl, hF, hbw3⟩
    case round =>
      obtain ⟨i, k, r, v, hi1, hk, hrk, hcl, rfl, rfl, rfl, hF2, hbr⟩ := hrel
      clear hF hbw3 hl3
      have hbz := hbr.size
      have hle := tot_le ss i
      by_cases hlt : i < n
      · have htk := tot_take ss i (by omega)
        have hle2 := tot_le ss (i + 1)
        have hs1 := h1.below (hbr.mono hB)
        obtain ⟨bb, off, rfl, hbB, hcx⟩ := hs1.at_ hlt
        have hc := hcx i hlt
        obtain ⟨x, hx⟩ : ∃ x, ss.getD i ByteArray.empty = x := ⟨_, rfl⟩
        rw [hx] at hc htk
        have Hcx : Hid (∀ W, Below w.heap.size w W → W.cell? ⟨bb, off + i, none⟩ = some (.string x)) := Lib.hid fun W hW => by
          obtain ⟨b', off', e, _, hcl'⟩ := (h1.below (hW.mono hB)).at_ hlt
          cases e
          rw [hcl' i hlt, hx]
        have hx8 : x.size ≤ 6000 := by omega
        have hk8 : k + x.size ≤ 6000 := by omega
        have htk2 : k + x.size + (i + 1) = totF (ss.take (i + 1)) := by omega
        have Htk := Lib.hid htk2
        clear hcx hs1 hx htk hle2 htk2 hk
        by_cases hzi : z = (i : Int)
        · have hze : ((i : Int) == z) = true := by rw [hzi]; exact beq_self_eq_true _
          have hres := frreset_any w.heap.size N v r _ wr hF2
          have hmine : ∀ b, mineF N v b → w.heap.size ≤ b := fun b hb => (FramerOf.blocks hF2 b hb).1
          clear hzi
          go_wp2_with fail
          refine hres.mono ?_
          rintro e w4 ⟨rfl, hF4, ht4⟩
          have hbw4 := hbr.trans (ht4.below hbz hmine)
          have hc := Hcx.out w4 hbw4
          obtain ⟨X, hX⟩ : ∃ X : ByteArray, (⟨#[]⟩ : ByteArray) = X := ⟨_, rfl⟩
          have hXl : X.data.toList = [] := by rw [← hX]
          have hX0 : X.size ≤ k := by rw [← hX]; exact Nat.zero_le _
          have hcl0 : linesQ [] = [[]] := rfl
          have hr0 : ([] : List UInt8).length ≤ k := by simp
          clear hres hF2 ht4 hbr hcl hmine
          obtain ⟨ls, r1, hl⟩ := lines_parts ([] ++ x.data.toList)
          have hr1l : r1.length ≤ k + x.size := by
            have h5 := congrArg List.length (whole_text hl)
            have h6 : x.data.toList.length = x.size := rfl
            rw [List.length_append, List.length_append, h6] at h5
            omega
          have hcl1 := rest_clean hl
          have hXx : linesQ (X ++ x).data.toList = ls ++ [r1] := by
            rw [show (X ++ x).data.toList = X.data.toList ++ x.data.toList by simp, hXl]
            exact hl
          have hXs : (X ++ x).size ≤ 1000000 := by rw [ByteArray.size_append]; omega
          obtain ⟨R, hR⟩ : ∃ R : ByteArray, (⟨r1.toArray⟩ : ByteArray) = R := ⟨_, rfl⟩
          have hRs : R.size = r1.length := by rw [← hR]; rfl
          have hcut := fun W => r6cut_any (X ++ x) ls r1 W hXs hXx
          rw [hR] at hcut
          have hlf : ls.length ≤ 6000 := by
            have := lines_few hl
            rw [List.length_append] at this
            have h6 : x.data.toList.length = x.size := rfl
            omega
          have Hl := Lib.hid hl
          have Hcut := Lib.hid hcut
          have Hcl1 := Lib.hid hcl1
          have HR := Lib.hid hR
          have hW8 : waitF r1 = min R.size 999 := by unfold waitF; rw [hRs]
          clear hl hcl1 hXx hcut hXl hR
          go_wp2_with fail
          refine (feed_any w.heap.size N (.slice none 0 0) [] r1 ls k x w4 hbw4.size hF4 hcl0 Hl.out (by omega) (by omega)).mono ?_
          rintro e w5 ⟨vl, v1, rfl, hr5, hF5, ht5, _⟩
          have hbw5 := hbw4.trans (ht5.below hbw4.size (fun b hb => (FramerOf.blocks hF4 b hb).1))
          have c5 := Hcx.out w5 hbw5
          clear ht5 hF4 hc
          go_wp2_with fail
          refine (Hcut.out _).mono ?_
          rintro e w6 ⟨vm, rfl, hr6, hb6⟩
          have hbw6 := hbw5.trans (hb6.mono hbw5.size)
          have c6 := Hcx.out w6 hbw6
          have hr5' := ownsRow_below4 hr5 hb6
          have hF6 : FramerAt w6 w.heap.size N v1 r1 ((k + x.size : Nat) : Int) := framer_below hF5 hb6
          obtain ⟨a1, q1, rfl⟩ := row_slice hr5'
          obtain ⟨a2, q2, rfl⟩ := row_slice hr6
          have hwt := frwait_any _ _ _ _ _ _ hF6
          have hfd := frfed_any _ _ _ _ _ _ hF6
          rw [hW8] at hwt
          rw [show ((k + x.size : Nat) : Int) = (k : Int) + (x.size : Int) by push_cast; rfl] at hfd
          rw [show ((min R.size 999 : Nat) : Int) = min (R.size : Int) 999 by omega] at hwt
          have H5 := Lib.hid hr5'
          have H6 := Lib.hid hr6
          have HF6 := Lib.hid hF6
          clear hr5 hF5 hF6 hr5' hr6 hb6 c5 hbw5 Hcut hW8
          go_wp2_with fail
          refine hwt.mono ?_
          rintro e w7 ⟨rfl, h7⟩
          obtain rfl := h7.symm
          clear h7 hwt
          go_wp2_with fail
          refine hfd.mono ?_
          rintro e w7 ⟨rfl, h7⟩
          obtain rfl := h7.symm
          clear h7 hfd
          have Hbw6 := Lib.hid hbw6
          have Hb6 := Lib.hid (Below.refl w6.heap.size w6)
          go_wp2
          go_loopw [12] (fun iv W => ∃ j : Nat, j ≤ ls.length ∧ iv = .int .i64 j ∧ Below w6.heap.size w6 W) (fun iv _ => ls.length - (intOf iv).toNat)
          case atStart => exact ⟨0, by omega, rfl, Hb6.out⟩
          case round =>
            obtain ⟨j, hj1, rfl, hgr⟩ := hrel
            by_cases hjl : j < ls.length
            · rcases row_lines H5.out with ⟨h0, _⟩ | ⟨g1, cg1, he, _, hg1l, hgc1⟩
              · rw [h0] at hjl
                cases hjl
              rcases row_lines H6.out with ⟨h0, _⟩ | ⟨g2, cg2, he2, _, hg2l, hgc2⟩
              · rw [h0] at hjl
                cases hjl
              simp only [Value.slice.injEq, true_and] at he he2
              obtain ⟨rfl, rfl⟩ := he
              obtain ⟨rfl, rfl⟩ := he2
              obtain ⟨p1, p2⟩ := hgc1 j hjl
              obtain ⟨r2, r3⟩ := hgc2 j hjl
              obtain ⟨Y, hY⟩ : ∃ Y, textQ (keptF ls[j]) = Y := ⟨_, rfl⟩
              obtain ⟨lo, hlo⟩ : ∃ lo, longF ls[j] = lo := ⟨_, rfl⟩
              rw [hY] at p1 r2
              rw [hlo] at p2 r3
              rw [← hgr.cell (p := ⟨g1, j * 2, none⟩) hg1l] at p1
              rw [← hgr.cell (p := ⟨g1, j * 2 + 1, none⟩) hg1l] at p2
              rw [← hgr.cell (p := ⟨g2, j * 2, none⟩) hg2l] at r2
              rw [← hgr.cell (p := ⟨g2, j * 2 + 1, none⟩) hg2l] at r3
              have k1 : (0 : Int) ≤ (j : Int) := by omega
              have k2 : (j : Int) < (ls.length : Int) := by omega
              clear hgc1 hgc2 hY hlo
              go_wp2
              go_quiet (fail)
              go_wp2
              go_roundw
              case rel => exact ⟨j + 1, by omega, by go_num, below_drewN hgr _⟩
              case measure => simp [intOf]; omega
            · obtain rfl : j = ls.length := by omega
              have hFn : FramerAt wr w.heap.size N v1 r1 ((k + x.size : Nat) : Int) := framer_below HF6.out hgr
              have hbn := Hbw6.out.trans (hgr.mono Hbw6.out.size)
              go_wp2
              go_roundw
              case rel => exact ⟨i + 1, k + x.size, r1, v1, by omega, Htk.out, hr1l, Hcl1.out, by rw [HR.out], by go_num, by go_num, hFn, hbn⟩
              case measure => simp [intOf]; omega
        · have hze : ((i : Int) == z) = false := by rw [beq_eq_false_iff_ne]; exact fun e => hzi e.symm
          obtain ⟨X, hX⟩ : ∃ X : ByteArray, (⟨r.toArray⟩ : ByteArray) = X := ⟨_, rfl⟩
          have hXl : X.data.toList = r := by rw [← hX]
          have hX0 : X.size ≤ k := by rw [← hX]; exact hrk
          rw [hX]
          clear hzi hX
          obtain ⟨ls, r1, hl⟩ := lines_parts (r ++ x.data.toList)
          have hr1l : r1.length ≤ k + x.size := by
            have h5 := congrArg List.length (whole_text hl)
            have h6 : x.data.toList.length = x.size := rfl
            rw [List.length_append, List.length_append, h6] at h5
            omega
          have hcl1 := rest_clean hl
          have hXx : linesQ (X ++ x).data.toList = ls ++ [r1] := by
            rw [show (X ++ x).data.toList = X.data.toList ++ x.data.toList by simp, hXl]
            exact hl
          have hXs : (X ++ x).size ≤ 1000000 := by rw [ByteArray.size_append]; omega
          obtain ⟨R, hR⟩ : ∃ R : ByteArray, (⟨r1.toArray⟩ : ByteArray) = R := ⟨_, rfl⟩
          have hRs : R.size = r1.length := by rw [← hR]; rfl
          have hcut := fun W => r6cut_any (X ++ x) ls r1 W hXs hXx
          rw [hR] at hcut
          have hlf : ls.length ≤ 6000 := by
            have := lines_few hl
            rw [List.length_append] at this
            have h6 : x.data.toList.length = x.size := rfl
            omega
          have Hl := Lib.hid hl
          have Hcut := Lib.hid hcut
          have Hcl1 := Lib.hid hcl1
          have HR := Lib.hid hR
          have hW8 : waitF r1 = min R.size 999 := by unfold waitF; rw [hRs]
          clear hl hcl1 hXx hcut hXl hR
          go_wp2_with fail
          refine (feed_any w.heap.size N v r r1 ls k x wr hbz hF2 hcl Hl.out (by omega) (by omega)).mono ?_
          rintro e w5 ⟨vl, v1, rfl, hr5, hF5, ht5, _⟩
          have hbw5 := hbr.trans (ht5.below hbz (fun b hb => (FramerOf.blocks hF2 b hb).1))
          have c5 := Hcx.out w5 hbw5
          clear ht5 hF2 hc
          go_wp2_with fail
          refine (Hcut.out _).mono ?_
          rintro e w6 ⟨vm, rfl, hr6, hb6⟩
          have hbw6 := hbw5.trans (hb6.mono hbw5.size)
          have c6 := Hcx.out w6 hbw6
          have hr5' := ownsRow_below4 hr5 hb6
          have hF6 : FramerAt w6 w.heap.size N v1 r1 ((k + x.size : Nat) : Int) := framer_below hF5 hb6
          obtain ⟨a1, q1, rfl⟩ := row_slice hr5'
          obtain ⟨a2, q2, rfl⟩ := row_slice hr6
          have hwt := frwait_any _ _ _ _ _ _ hF6
          have hfd := frfed_any _ _ _ _ _ _ hF6
          rw [hW8] at hwt
          rw [show ((k + x.size : Nat) : Int) = (k : Int) + (x.size : Int) by push_cast; rfl] at hfd
          rw [show ((min R.size 999 : Nat) : Int) = min (R.size : Int) 999 by omega] at hwt
          have H5 := Lib.hid hr5'
          have H6 := Lib.hid hr6
          have HF6 := Lib.hid hF6
          clear hr5 hF5 hF6 hr5' hr6 hb6 c5 hbw5 Hcut hW8
          go_wp2_with fail
          refine hwt.mono ?_
          rintro e w7 ⟨rfl, h7⟩
          obtain rfl := h7.symm
          clear h7 hwt
          go_wp2_with fail
          refine hfd.mono ?_
          rintro e w7 ⟨rfl, h7⟩
          obtain rfl := h7.symm
          clear h7 hfd
          have Hbw6 := Lib.hid hbw6
          have Hb6 := Lib.hid (Below.refl w6.heap.size w6)
          go_wp2
          go_loopw [12] (fun iv W => ∃ j : Nat, j ≤ ls.length ∧ iv = .int .i64 j ∧ Below w6.heap.size w6 W) (fun iv _ => ls.length - (intOf iv).toNat)
          case atStart => exact ⟨0, by omega, rfl, Hb6.out⟩
          case round =>
            obtain ⟨j, hj1, rfl, hgr⟩ := hrel
            by_cases hjl : j < ls.length
            · rcases row_lines H5.out with ⟨h0, _⟩ | ⟨g1, cg1, he, _, hg1l, hgc1⟩
              · rw [h0] at hjl
                cases hjl
              rcases row_lines H6.out with ⟨h0, _⟩ | ⟨g2, cg2, he2, _, hg2l, hgc2⟩
              · rw [h0] at hjl
                cases hjl
              simp only [Value.slice.injEq, true_and] at he he2
              obtain ⟨rfl, rfl⟩ := he
              obtain ⟨rfl, rfl⟩ := he2
              obtain ⟨p1, p2⟩ := hgc1 j hjl
              obtain ⟨r2, r3⟩ := hgc2 j hjl
              obtain ⟨Y, hY⟩ : ∃ Y, textQ (keptF ls[j]) = Y := ⟨_, rfl⟩
              obtain ⟨lo, hlo⟩ : ∃ lo, longF ls[j] = lo := ⟨_, rfl⟩
              rw [hY] at p1 r2
              rw [hlo] at p2 r3
              rw [← hgr.cell (p := ⟨g1, j * 2, none⟩) hg1l] at p1
              rw [← hgr.cell (p := ⟨g1, j * 2 + 1, none⟩) hg1l] at p2
              rw [← hgr.cell (p := ⟨g2, j * 2, none⟩) hg2l] at r2
              rw [← hgr.cell (p := ⟨g2, j * 2 + 1, none⟩) hg2l] at r3
              have k1 : (0 : Int) ≤ (j : Int) := by omega
              have k2 : (j : Int) < (ls.length : Int) := by omega
              clear hgc1 hgc2 hY hlo
              go_wp2
              go_quiet (fail)
              go_wp2
              go_roundw
              case rel => exact ⟨j + 1, by omega, by go_num, below_drewN hgr _⟩
              case measure => simp [intOf]; omega
            · obtain rfl : j = ls.length := by omega
              have hFn : FramerAt wr w.heap.size N v1 r1 ((k + x.size : Nat) : Int) := framer_below HF6.out hgr
              have hbn := Hbw6.out.trans (hgr.mono Hbw6.out.size)
              go_wp2
              go_roundw
              case rel => exact ⟨i + 1, k + x.size, r1, v1, by omega, Htk.out, hr1l, Hcl1.out, by rw [HR.out], by go_num, by go_num, hFn, hbn⟩
              case measure => simp [intOf]; omega
      · obtain rfl : i = n := by omega
        go_wp2
        go_ret
        exact ⟨rfl, hbr⟩
end Go.Proofs.Ytflmbihdmmfcpaa
