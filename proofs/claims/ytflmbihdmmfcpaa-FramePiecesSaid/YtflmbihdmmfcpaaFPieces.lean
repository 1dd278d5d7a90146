/-
  FramePieces returns true, for any list of texts: the walk.
-/
import Derived.Test.YtflmbihdmmfcpaaThree
import Derived.Test.YtflmbihdmmfcpaaFew6
namespace Go.Proofs.Ytflmbihdmmfcpaa
open Go.RowKit

theorem take_byte (x : ByteArray) (j : Nat) : x.data.toList.take (j + 1) = x.data.toList.take j ++ (x.extract j (j + 1)).data.toList := by
  rw [cut_text]
  show _ = _ ++ (x.data.toList.drop j).take (j + 1 - j)
  rw [show j + 1 - j = 1 by omega, List.take_add]

set_option maxRecDepth 100000 in
set_option maxHeartbeats 4000000 in
theorem fpieces_walk (B n c : Nat) (A : Option Addr) (ss : List ByteArray) (m : Int) (w : World) (hB : B ≤ w.heap.size) (h1 : Strs w B A n c ss) (hsz : ∀ s ∈ ss, s.size ≤ 140737488351232) (hm : w.cell? ⟨0, 0, none⟩ = some (.int .i64 m)) :
    Calls Try.prog 4 #[.slice A n c] w fun e w' => e = .returned (.bool true) ∧ Below w.heap.size w w' := by
  obtain ⟨i0, hi, hz0, hz1, hz2⟩ := info_parts infoLine
  have haw := awake6_any m w hm
  have hlen := h1.len
  have hfw := fun W hW => few6_any B n c A ss W (h1.below (w' := W) hW) hsz
  have Hfw := Lib.hid hfw
  clear hfw hm
  go_enter Try.func4, Try.ntmps4
  go_wp2_with fail
  refine haw.mono ?_
  rintro e w1 ⟨rfl, hw1⟩
  clear haw
  have hfew := Hfw.out w1 (hw1.mono hB)
  cases hfb : fewB ss with
  | false =>
    rw [hfb] at hfew
    clear hfb
    go_wp2_with fail
    refine hfew.mono ?_
    rintro e w2 ⟨rfl, h2⟩
    obtain rfl := h2.symm
    clear h2 hfew
    go_wp2
    go_ret
    exact ⟨rfl, hw1⟩
  | true =>
    rw [hfb] at hfew
    unfold fewB at hfb
    simp only [decide_eq_true_eq] at hfb
    obtain ⟨hn100, htot⟩ := hfb
    clear hsz Hfw
    go_wp2_with fail
    refine hfew.mono ?_
    rintro e w2 ⟨rfl, h2⟩
    obtain rfl := h2.symm
    clear h2 hfew
    go_wp2_with fail
    refine (frnew_any w.heap.size w1 hw1.size).mono ?_
    rintro e w3 ⟨rfl, hF1, hb3, hl3⟩
    have hbw3 := hw1.trans (hb3.mono hw1.size)
    go_wp2_with fail
    refine (frnew_any w.heap.size w3 hbw3.size).mono ?_
    rintro e w4 ⟨rfl, hF2, hb4, hl4⟩
    have hbw4 := hbw3.trans (hb4.mono hbw3.size)
    have hF1 := framer_below hF1 hb4
    go_wp2_with fail
    refine (frnew_any w.heap.size w4 hbw4.size).mono ?_
    rintro e w5 ⟨rfl, hF3, hb5, hl5⟩
    have hbw5 := hbw4.trans (hb5.mono hbw4.size)
    have hF1 := framer_below hF1 hb5
    have hF2 := framer_below hF2 hb5
    obtain ⟨N1, hN1⟩ : ∃ N, w1.heap.size = N := ⟨_, rfl⟩
    obtain ⟨N2, hN2⟩ : ∃ N, w3.heap.size = N := ⟨_, rfl⟩
    obtain ⟨N3, hN3⟩ : ∃ N, w4.heap.size = N := ⟨_, rfl⟩
    have hnil : ∀ N, GoesF w5 w.heap.size N (.slice none 0 0) (.slice none 0 0) [] ↔ FramerAt w5 w.heap.size N (.slice none 0 0) [] 0 := fun N =>
      ⟨fun ⟨ls, r, h, hF, _⟩ => by
        obtain ⟨_, rfl⟩ := parts_inj (a := []) (r := []) h
        exact hF, fun hF => ⟨[], [], rfl, hF, World.ownsRow_nil _ _ _ _⟩⟩
    have hap : ∀ N N', N ≠ N' → ApartS (mineG N (.slice none 0 0) (.slice none 0 0)) (mineG N' (.slice none 0 0) (.slice none 0 0)) := by
      rintro N N' hne x ((rfl | e) | e) ((e2 | e2) | e2)
      · exact hne e2
      all_goals first | (cases e; done) | (cases e2; done)
    have hap3 : ∀ N N', N ≠ N' → ApartS (mineG N (.slice none 0 0) (.slice none 0 0)) (mineF N' (.slice none 0 0)) := fun N N' hne x h1 h2 => hap N N' hne x h1 (.inl h2)
    rw [hN1] at hF1 hl3
    rw [hN2] at hF2 hl3 hl4
    rw [hN3] at hF3 hl4 hl5
    have hT3 : ThreeF w5 w.heap.size N1 (.slice none 0 0) (.slice none 0 0) (⟨#[]⟩ : ByteArray).data.toList N2 (.slice none 0 0) (.slice none 0 0) (⟨#[]⟩ : ByteArray).data.toList N3 :=
      ⟨(hnil N1).2 hF1, (hnil N2).2 hF2, hF3, hap _ _ (by omega), hap3 _ _ (by omega), hap3 _ _ (by omega)⟩
    rw [hN1, hN2, hN3]
    have HT3 := Lib.hid hT3
    clear hb3 hb4 hb5 hN1 hN2 hN3 hw1 hF1 hF2 hF3 hnil hap hap3 hT3 hbw3 hbw4 hl3 hl4 hl5
    go_wp2
    go_loopw [6, 7, 8, 9, 10] (fun av ra rb iv _ wr => ∃ (i : Nat) (T : ByteArray) (v1 v2 : Value), i ≤ n ∧ T.size + i = totF (ss.take i) ∧ av = .string T ∧ iv = .int .i64 i ∧ ThreeF wr w.heap.size N1 v1 ra T.data.toList N2 v2 rb T.data.toList N3 ∧ Below w.heap.size w wr) (fun _ _ _ iv _ _ => n - (intOf iv).toNat)
    case atStart => exact ⟨0, ⟨#[]⟩, _, _, by omega, by simp [totF]; rfl, rfl, rfl, HT3.out, hbw5⟩
    case round =>
      obtain ⟨i, T, v1, v2, hi1, hk, rfl, rfl, hT, hbr⟩ := hrel
      clear HT3 hbw5
      have hbz := hbr.size
      have hle := tot_le ss i
      by_cases hlt : i < n
      · have htk := tot_take ss i (by omega)
        have hle2 := tot_le ss (i + 1)
        have hs1 := h1.below (hbr.mono hB)
        obtain ⟨bb, off, rfl, hbB, hcx⟩ := hs1.at_ hlt
        have hc := hcx i hlt
        obtain ⟨x, hx⟩ : ∃ x, ss.getD i ByteArray.empty = x := ⟨_, rfl⟩
        rw [hx] at hc htk
        have Hcx : Hid (∀ W, Below w.heap.size w W → W.cell? ⟨bb, off + i, none⟩ = some (.string x)) := Lib.hid fun W hW => by
          obtain ⟨b', off', e, _, hcl'⟩ := (h1.below (hW.mono hB)).at_ hlt
          cases e
          rw [hcl' i hlt, hx]
        have hx8 : x.size ≤ 6000 := by omega
        have hT8 : T.size + x.size ≤ 6000 := by omega
        have htk2 : (T ++ x).size + (i + 1) = totF (ss.take (i + 1)) := by rw [ByteArray.size_append]; omega
        have Htk := Lib.hid htk2
        clear hcx hs1 hx htk hle2 htk2 hk
        obtain ⟨ls, r, hl1, hF, hr⟩ := hT.one
        obtain ⟨l2, r2, hl2⟩ := lines_parts (r ++ x.data.toList)
        have hTl : T.data.toList.length = T.size := rfl
        have hxl : x.data.toList.length = x.size := rfl
        have hfl1 := lines_few hl1
        have hrl : r.length ≤ T.size := by
          have h5 := congrArg List.length (whole_text hl1)
          rw [List.length_append, hTl] at h5
          omega
        have hfl2 := lines_few hl2
        rw [List.length_append, hxl] at hfl2
        rw [hTl] at hfl1 hF
        have Hl1 := Lib.hid hl1
        have Hl2 := Lib.hid hl2
        have HT := Lib.hid hT
        clear hl1 hl2 hT hTl hxl
        go_wp2_with fail
        refine (feed_any w.heap.size N1 v1 r r2 l2 T.size x wr hbz hF (rest_clean Hl1.out) Hl2.out (by omega) (by omega)).mono ?_
        rintro e w5 ⟨vl, v1', rfl, hr5, hF5, ht5, hf5⟩
        have hmb : ∀ b, mineF N1 v1 b → w.heap.size ≤ b := fun b hb => (FramerOf.blocks hF b hb).1
        have hbw5 := hbr.trans (ht5.below hbz hmb)
        have ho5 := ht5.row hr (FramerOf.row_no hF hr (by decide) (by decide))
        have hz5 := hbw5.size
        clear hr hF hmb hc
        go_wp2_with (at_builtin; refine wpList_append_rows rfl (.tmp 33) (.tmp 39) 27 rfl w.heap.size wr.heap.size 35 i0 _ 2 24 Try.underlying27 hi hz0 hz1 hz2 rfl (by decide) _ _ _ rfl ho5 _ _ _ rfl hr5 (cells_one l2) (by unfold maxLen; omega) (by omega) hz5 ?_)
        intro va' w6 ho6 hg6 hat6
        have hTd : (T ++ x).data.toList = T.data.toList ++ x.data.toList := by simp
        have hst : ThreeF w6 w.heap.size N1 v1' va' (T ++ x).data.toList N2 v2 u8 (T.data.toList ++ x.data.toList.take 0) N3 := by
          rw [hTd, List.take_zero, List.append_nil]
          exact HT.out.step (goes_step Hl1.out Hl2.out hF5 (by rw [List.length_append]; rfl) ht5 hf5 ho5 ho6 hg6 hat6)
        have hb6 : Below w.heap.size w w6 := hbw5.grown hg6 hz5 fun k hk => (ho5.lt k hk).1
        have Hst := Lib.hid hst
        have HTd := Lib.hid hTd
        clear hr5 hF5 ht5 hf5 hbw5 ho5 ho6 hg6 hat6 hz5 HT hst hTd Hl1 Hl2 hfl1 hfl2 hrl hbr hbz
        go_wp2
        go_loopw [8, 10] (fun rb kv W => ∃ (j : Nat) (v2' : Value), j ≤ x.size ∧ kv = .int .i64 j ∧ ThreeF W w.heap.size N1 v1' va' (T ++ x).data.toList N2 v2' rb (T.data.toList ++ x.data.toList.take j) N3 ∧ Below w.heap.size w W) (fun _ kv _ => x.size - (intOf kv).toNat)
        case atStart => exact ⟨0, _, by omega, rfl, Hst.out, hb6⟩
        case round =>
          obtain ⟨j, v2', hj1, rfl, hT, hbr⟩ := hrel
          have hbz := hbr.size
          have hc := Hcx.out _ hbr
          clear Hst hb6
          by_cases hjl : j < x.size
          · have htb := take_byte x j
            obtain ⟨Y, hY⟩ : ∃ Y, x.extract j (j + 1) = Y := ⟨_, rfl⟩
            rw [hY] at htb
            have hYs : Y.size = 1 := by
              have h5 := congrArg List.length htb
              have h6 : Y.data.toList.length = Y.size := rfl
              have h7 : x.data.toList.length = x.size := rfl
              rw [List.length_append, List.length_take, List.length_take, h6, h7] at h5
              omega
            obtain ⟨tj, htj⟩ : ∃ tj, T.data.toList ++ x.data.toList.take j = tj := ⟨_, rfl⟩
            have htj2 : T.data.toList ++ x.data.toList.take (j + 1) = tj ++ Y.data.toList := by rw [htb, ← List.append_assoc, htj]
            have htl : tj.length = T.size + j := by
              have h6 : T.data.toList.length = T.size := rfl
              have h7 : x.data.toList.length = x.size := rfl
              rw [← htj, List.length_append, List.length_take, h6, h7]
              omega
            rw [htj] at hT
            obtain ⟨ls, r, hl1, hF, hr⟩ := hT.two
            obtain ⟨l2, r2, hl2⟩ := lines_parts (r ++ Y.data.toList)
            have hYl : Y.data.toList.length = Y.size := rfl
            have hfl1 := lines_few hl1
            have hrl : r.length ≤ tj.length := by
              have h5 := congrArg List.length (whole_text hl1)
              rw [List.length_append] at h5
              omega
            have hfl2 := lines_few hl2
            rw [List.length_append, hYl, hYs] at hfl2
            rw [htl] at hfl1 hrl hF
            have Hl1 := Lib.hid hl1
            have Hl2 := Lib.hid hl2
            have HT := Lib.hid hT
            have Htj2 := Lib.hid htj2
            have Htl := Lib.hid htl
            have HYs := Lib.hid hYs
            have k1 : (0 : Int) ≤ (j : Int) := by omega
            have k2 : (j : Int) ≤ (j : Int) + 1 := by omega
            have k3 : (j : Int) + 1 ≤ (x.size : Int) := by omega
            clear hl1 hl2 hT htb htj htj2 htl hYl hYs
            go_wp2_with fail
            have hwp := HYs.out
            refine (feed_any w.heap.size N2 v2' r r2 l2 (T.size + j) Y wr hbz hF (rest_clean Hl1.out) Hl2.out (by omega) (by omega)).mono ?_
            rintro e w7 ⟨vl2, v2'', rfl, hr5, hF5, ht5, hf5⟩
            have hmb : ∀ b, mineF N2 v2' b → w.heap.size ≤ b := fun b hb => (FramerOf.blocks hF b hb).1
            have hbw7 := hbr.trans (ht5.below hbz hmb)
            have ho5 := ht5.row hr (FramerOf.row_no hF hr (by decide) (by decide))
            have hz5 := hbw7.size
            clear hr hF hmb hc hwp
            go_wp2_with (at_builtin; refine wpList_append_rows rfl (.tmp 50) (.tmp 60) 27 rfl w.heap.size wr.heap.size 35 i0 _ 2 24 Try.underlying27 hi hz0 hz1 hz2 rfl (by decide) _ _ _ rfl ho5 _ _ _ rfl hr5 (cells_one l2) (by unfold maxLen; omega) (by omega) hz5 ?_)
            intro vb' w8 ho6 hg6 hat6
            have hst : ThreeF w8 w.heap.size N1 v1' va' (T ++ x).data.toList N2 v2'' vb' (T.data.toList ++ x.data.toList.take (j + 1)) N3 := by
              rw [Htj2.out]
              refine (HT.out.swap.step (goes_step Hl1.out Hl2.out hF5 ?_ ht5 hf5 ho5 ho6 hg6 hat6)).swap
              rw [List.length_append, Htl.out]
              rfl
            have hb8 : Below w.heap.size w w8 := hbw7.grown hg6 hz5 fun k hk => (ho5.lt k hk).1
            clear hr5 hF5 ht5 hf5 hbw7 ho5 ho6 hg6 hat6 hz5 hbr
            go_wp2
            go_roundw
            case rel => exact ⟨j + 1, v2'', by omega, by go_num, hst, hb8⟩
            case measure => simp [intOf]; omega
          · obtain rfl : j = x.size := by omega
            have hT9 : ThreeF wr w.heap.size N1 v1' va' (T ++ x).data.toList N2 v2' u8 (T ++ x).data.toList N3 := by
              rw [List.take_of_length_le (by exact Nat.le_refl _), ← HTd.out] at hT
              exact hT
            clear hT
            go_wp2
            go_roundw
            case rel => exact ⟨i + 1, T ++ x, v1', v2', by omega, Htk.out, rfl, by go_num, hT9, hbr⟩
            case measure => simp [intOf]; omega
      · obtain rfl : i = n := by omega
        obtain ⟨ls, r, hl, hF1, hr1⟩ := hT.one
        obtain ⟨ls2, r2, hl2, hF2, hr2⟩ := hT.two
        rw [hl] at hl2
        obtain ⟨rfl, rfl⟩ := parts_inj hl2
        have hTl : T.data.toList.length = T.size := rfl
        have hfl := lines_few hl
        rw [hTl] at hfl hF1 hF2
        have hT8 : T.size ≤ 6000 := by omega
        have h13 := hT.a13
        have h23 := hT.a23
        have hF3 := hT.new
        have hl' : linesQ ([] ++ T.data.toList) = ls ++ [r] := hl
        have Hl := Lib.hid hl'
        clear hl hl2 hl' hTl hT
        go_wp2_with fail
        refine (feed_any w.heap.size N3 _ [] r ls 0 T wr hbz hF3 rfl Hl.out (by omega) (by omega)).mono ?_
        rintro e w5 ⟨vc, v3, rfl, hr3, hF3', ht5, _⟩
        have hF1 : FramerAt w5 w.heap.size N1 v1 r _ := FramerOf.keep hF1 ht5 (fun b q1 q2 => h13 b (.inl q1) q2)
        have hF2 : FramerAt w5 w.heap.size N2 v2 r _ := FramerOf.keep hF2 ht5 (fun b q1 q2 => h23 b (.inl q1) q2)
        have hr1 := ht5.row hr1 (fun b q1 q2 => h13 b (.inr q1) q2)
        have hr2 := ht5.row hr2 (fun b q1 q2 => h23 b (.inr q1) q2)
        have hbw5 := hbr.trans (ht5.below hbz (fun b hb => (FramerOf.blocks hF3 b hb).1))
        have hwa := frwait_any _ _ _ _ _ _ hF1
        have hwb := frwait_any _ _ _ _ _ _ hF2
        have hwc := frwait_any _ _ _ _ _ _ hF3'
        obtain ⟨a1, q1, rfl⟩ := row_slice hr1
        obtain ⟨a2, q2, rfl⟩ := row_slice hr2
        obtain ⟨a3, q3, rfl⟩ := row_slice hr3
        obtain ⟨p, hp⟩ : ∃ p, waitF r = p := ⟨_, rfl⟩
        rw [hp] at hwa hwb hwc
        have H1 := Lib.hid hr1
        have H2 := Lib.hid hr2
        have H3 := Lib.hid hr3
        have Ha := Lib.hid hwa
        clear hp hr1 hr2 hr3 hF1 hF2 hF3 hF3' ht5 h13 h23 Hl hwa hbr hbz
        go_wp2_with fail
        refine Ha.out.mono ?_
        rintro e w9 ⟨rfl, h9⟩
        obtain rfl := h9.symm
        clear h9
        go_wp2_with fail
        refine hwb.mono ?_
        rintro e w9 ⟨rfl, h9⟩
        obtain rfl := h9.symm
        clear h9 hwb
        go_wp2_with fail
        refine Ha.out.mono ?_
        rintro e w9 ⟨rfl, h9⟩
        obtain rfl := h9.symm
        clear h9
        go_wp2_with fail
        refine hwc.mono ?_
        rintro e w9 ⟨rfl, h9⟩
        obtain rfl := h9.symm
        clear h9 hwc
        have Hbw := Lib.hid hbw5
        have Hb5 := Lib.hid (Below.refl w5.heap.size w5)
        go_wp2
        go_loopw [12] (fun iv W => ∃ j : Nat, j ≤ ls.length ∧ iv = .int .i64 j ∧ Below w5.heap.size w5 W) (fun iv _ => ls.length - (intOf iv).toNat)
        case atStart => exact ⟨0, by omega, rfl, Hb5.out⟩
        case round =>
          obtain ⟨j, hj1, rfl, hgr⟩ := hrel
          by_cases hjl : j < ls.length
          · rcases row_lines H1.out with ⟨h0, _⟩ | ⟨g1, cg1, he, _, hg1l, hgc1⟩
            · rw [h0] at hjl
              cases hjl
            rcases row_lines H2.out with ⟨h0, _⟩ | ⟨g2, cg2, he2, _, hg2l, hgc2⟩
            · rw [h0] at hjl
              cases hjl
            rcases row_lines H3.out with ⟨h0, _⟩ | ⟨g3, cg3, he3, _, hg3l, hgc3⟩
            · rw [h0] at hjl
              cases hjl
            simp only [Value.slice.injEq, true_and] at he he2 he3
            obtain ⟨rfl, rfl⟩ := he
            obtain ⟨rfl, rfl⟩ := he2
            obtain ⟨rfl, rfl⟩ := he3
            obtain ⟨p1, p2⟩ := hgc1 j hjl
            obtain ⟨r1, r2⟩ := hgc2 j hjl
            obtain ⟨s1, s2⟩ := hgc3 j hjl
            obtain ⟨l, hl⟩ : ∃ l, ls[j] = l := ⟨_, rfl⟩
            rw [hl] at p1 p2 r1 r2 s1 s2
            rw [← hgr.cell (p := ⟨g1, j * 2, none⟩) hg1l] at p1
            rw [← hgr.cell (p := ⟨g1, j * 2 + 1, none⟩) hg1l] at p2
            rw [← hgr.cell (p := ⟨g2, j * 2, none⟩) hg2l] at r1
            rw [← hgr.cell (p := ⟨g2, j * 2 + 1, none⟩) hg2l] at r2
            rw [← hgr.cell (p := ⟨g3, j * 2, none⟩) hg3l] at s1
            rw [← hgr.cell (p := ⟨g3, j * 2 + 1, none⟩) hg3l] at s2
            have hkl := kept_len l
            have hzl : (textQ (keptF l)).size = (keptF l).length := rfl
            have k1 : (0 : Int) ≤ (j : Int) := by omega
            have k2 : (j : Int) < (ls.length : Int) := by omega
            by_cases hlong : 998 < l.length
            · have h8 : longF l = true := by unfold longF; exact decide_eq_true hlong
              rw [h8] at p2 r2 s2
              rw [kept_long h8, show textQ [] = ⟨#[]⟩ from rfl] at p1 r1 s1
              clear hgc1 hgc2 hgc3 hl h8 hlong hkl hzl
              go_wp2
              go_quiet (fail)
              go_wp2
              go_roundw
              case rel => exact ⟨j + 1, by omega, by go_num, below_drewN hgr _⟩
              case measure => simp [intOf]; omega
            · have h8 : longF l = false := by unfold longF; exact decide_eq_false hlong
              obtain ⟨Z, hZ⟩ : ∃ Z, textQ (keptF l) = Z := ⟨_, rfl⟩
              rw [h8] at p2 r2 s2
              rw [hZ] at p1 r1 s1 hzl
              have h9 : decide ((998 : Int) < (Z.size : Int)) = false := decide_eq_false (by omega)
              have h10 : decide (998 < Z.size) = false := decide_eq_false (by omega)
              clear hgc1 hgc2 hgc3 hl h8 hlong hkl hzl hZ
              go_wp2
              go_quiet (fail)
              go_wp2
              go_roundw
              case rel => exact ⟨j + 1, by omega, by go_num, below_drewN hgr _⟩
              case measure => simp [intOf]; omega
          · obtain rfl : j = ls.length := by omega
            have hbn := Hbw.out.trans (hgr.mono Hbw.out.size)
            go_wp2
            go_ret
            exact ⟨rfl, hbn⟩
end Go.Proofs.Ytflmbihdmmfcpaa
