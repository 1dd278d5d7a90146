/-
  FrameLong returns true, for any number, any byte and any text: the walk.
-/
import Derived.Test.YtflmbihdmmfcpaaAwake6
import Derived.Test.YtflmbihdmmfcpaaQ4L
import Derived.Laws.OwnMore
import Derived.OwnWalk
namespace Go.Proofs.Ytflmbihdmmfcpaa
open Go.RowKit

theorem eq13f {c : UInt8} (h : c = 13) : ((c.toNat : Int) == 13) = true := by rw [h]; rfl
theorem eq10f {c : UInt8} (h : c = 10) : ((c.toNat : Int) == 10) = true := by rw [h]; rfl
theorem ne13f {c : UInt8} (h : c ≠ 13) : ((c.toNat : Int) == 13) = false := byte_ne (d := 13) h
theorem ne10f {c : UInt8} (h : c ≠ 10) : ((c.toNat : Int) == 10) = false := byte_ne (d := 10) h
theorem rep_set (a b : Value) (K i : Nat) (h : i < K) : (List.replicate i a ++ List.replicate (K - i) b).set i a = List.replicate (i + 1) a ++ List.replicate (K - (i + 1)) b := by
  have e : K - i = (K - (i + 1)) + 1 := by omega
  rw [List.set_append_right _ _ (by simp), List.length_replicate, Nat.sub_self, e, List.replicate_succ, List.set_cons_zero, List.replicate_succ']
  simp
theorem rep_cells (K : Nat) (c : UInt8) : List.replicate K (Value.int .u8 (c.toNat : Int)) = Lib.byteCells (List.replicate K c) := by simp [Lib.byteCells]
theorem rep_lines {c : UInt8} (h : c ≠ 13) (K : Nat) (b : List UInt8) (lb : List (List UInt8)) (rb : List UInt8) (hb : linesQ b = lb ++ [rb]) : linesQ ([] ++ (List.replicate K c ++ [13, 10] ++ b)) = (List.replicate K c :: lb) ++ [rb] := by
  have e : [] ++ (List.replicate K c ++ [13, 10] ++ b) = List.replicate K c ++ 13 :: 10 :: b := by simp
  rw [e, lines_append, lines_one _ (fun x hx => by rw [List.eq_of_mem_replicate hx]; exact h), hb]
  rfl

set_option maxRecDepth 100000 in
set_option maxHeartbeats 4000000 in
theorem flong_walk (nn : Nat) (c : UInt8) (b : ByteArray) (m : Int) (w : World) (hm : w.cell? ⟨0, 0, none⟩ = some (.int .i64 m)) (hn : nn < 65536) (hb : b.size ≤ maxLen) :
    Calls Try.prog 8 #[.int .u16 (nn : Int), .int .u8 (c.toNat : Int), .string b] w fun e w' => e = .returned (.bool true) ∧ Below w.heap.size w w' := by
  obtain ⟨i0, hi, hz0, hz1, hz2⟩ := info_parts infoB4
  have haw := awake6_any m w hm
  unfold maxLen at hb
  have hcl := c.toNat_lt
  go_enter Try.func8, Try.ntmps8
  go_wp2_with fail
  refine haw.mono ?_
  rintro e w1 ⟨rfl, hw1⟩
  clear haw
  by_cases h1 : 1000 < b.size
  · go_wp2
    go_ret
    exact ⟨rfl, hw1⟩
  by_cases h2 : c = 13
  · have h13 := eq13f h2
    clear h2
    go_wp2
    go_ret
    exact ⟨rfl, hw1⟩
  have h13 := ne13f h2
  by_cases h3 : c = 10
  · have h10 := eq10f h3
    clear h2 h3
    go_wp2
    go_ret
    exact ⟨rfl, hw1⟩
  have h10 := ne10f h3
  obtain ⟨K, hK⟩ : ∃ K, nn % 1200 = K := ⟨_, rfl⟩
  have hK2 : K < 1200 := by omega
  have hKi : ((nn : Int) % 1200) = (K : Int) := by omega
  have Hc := Lib.hid h2
  have hz := hw1.size
  obtain ⟨w2, hmk, hrow, hgr⟩ := run_make_full (P := Try.prog) w1 w1.heap.size 52 5 i0 (.int .u8 0) 1 Try.underlying52 hi hz0 hz1 .i64 .i64 K (by rw [hz2]; omega) (by unfold maxLen; omega) (Nat.le_refl _)
  rw [show (madeCells (Value.int IntKind.u8 0).cells (K * 1)).toList = List.replicate 0 (Value.int .u8 (c.toNat : Int)) ++ List.replicate (K - 0) (.int .u8 0) by rw [Nat.mul_one]; exact toList_madeCells_one _ _] at hrow
  have hb2 : Below w.heap.size w w2 := hw1.grown hgr hz (fun k e => by cases e)
  obtain ⟨g, hg⟩ : ∃ g, w1.heap.size = g := ⟨_, rfl⟩
  rw [hg] at hmk hrow hz
  have hgl : g < w2.heap.size := by
    have h4 := hrow.2
    rcases h4 with ⟨h5, _⟩ | ⟨g', cap, cur, h5, _, h6, _⟩
    · simp at h5
    · simp only [Value.slice.injEq, Option.some.injEq, Addr.mk.injEq, and_true, true_and] at h5
      rw [h5.1]
      exact (Array.getElem?_eq_some_iff.1 h6).1
  clear h2 h3 hK hm hgr hg hw1
  go_wp2
  go_loopw [9] (fun iv wr => ∃ i : Nat, i ≤ K ∧ iv = .int .i64 i ∧ wr.ownsRow g 5 1 (.slice (some ⟨g, 0, none⟩) K K) K (List.replicate i (.int .u8 (c.toNat : Int)) ++ List.replicate (K - i) (.int .u8 0)) ∧ Below w.heap.size w wr ∧ g < wr.heap.size) (fun iv _ => K - (intOf iv).toNat)
  case atStart => exact ⟨0, by omega, rfl, hrow, hb2, hgl⟩
  case round =>
    obtain ⟨i, hi1, rfl, hown, hbr, hglr⟩ := hrel
    clear hrow hmk hb2 hgl
    by_cases hlt : i < K
    · have k0 := hown.cellAt i (by omega)
      rw [List.getElem?_append_right (by simp), List.length_replicate, Nat.sub_self, List.getElem?_replicate, if_pos (by omega)] at k0
      have k1 := hown.frozenAt i
      have k2 := (hown.stored i (.int .u8 (c.toNat : Int))).1
      rw [rep_set _ _ K i hlt] at k2
      have hb3 := hbr.setCell (p := ⟨g, i, none⟩) hz (.int .u8 (c.toNat : Int))
      clear hown
      go_wp2
      go_roundw
      case rel => exact ⟨i + 1, by omega, by go_num, k2, hb3, by simpa [World.setCell] using hglr⟩
      case measure => simp [intOf]; omega
    · obtain rfl : K = i := by omega
      rw [Nat.sub_self, List.replicate_zero, List.append_nil, rep_cells] at hown
      have hbz := hbr.size
      obtain ⟨lb, rb, hl⟩ := lines_parts b.data.toList
      obtain ⟨T, hT⟩ : ∃ T : ByteArray, (⟨(List.replicate K c).toArray⟩ : ByteArray) = T := ⟨_, rfl⟩
      have hTl : T.data.toList = List.replicate K c := by rw [← hT]
      have hTs : T.size = K := by
        have : T.data.toList.length = T.size := rfl
        rw [hTl, List.length_replicate] at this
        exact this.symm
      have hl1 : linesQ ([] ++ (T ++ ⟨#[13, 10]⟩ ++ b).data.toList) = (List.replicate K c :: lb) ++ [rb] := by
        rw [show (T ++ ⟨#[13, 10]⟩ ++ b).data.toList = List.replicate K c ++ [13, 10] ++ b.data.toList by rw [← hTl]; simp]
        exact rep_lines Hc.out K _ lb rb hl
      have hs1 : (T ++ ⟨#[13, 10]⟩ ++ b).size ≤ 1000000 := by
        rw [ByteArray.size_append, ByteArray.size_append, hTs]
        show K + 2 + b.size ≤ _
        omega
      have hlb : lb.length ≤ 1000 := by
        have h5 : b.data.toList.length = b.size := rfl
        rw [whole_text hl, List.length_append] at h5
        have h3 := whole_count lb
        omega
      have hkl : textQ (keptF (List.replicate K c)) = (if 998 < K then ⟨#[]⟩ else T) ∧ longF (List.replicate K c) = decide (998 < K) := by
        unfold keptF longF
        rw [List.length_replicate]
        refine ⟨?_, rfl⟩
        split
        · rfl
        · rw [← hT]; rfl
      have Hl1 := Lib.hid hl1
      have Hl := Lib.hid hl
      have HT := Lib.hid hT
      have Hkl := Lib.hid hkl
      clear hlt hi1 hl1 hl hT hTl hkl
      go_wp2_with fail
      refine (frnew_any w.heap.size wr hbz).mono ?_
      rintro e w3 ⟨rfl, hF1, hb3, hl3⟩
      have hbw3 := hbr.trans (hb3.mono hbz)
      have ho3 := ownsRow_below4 hown hb3
      clear hown
      go_wp2_with fail
      refine (frnew_any w.heap.size w3 hbw3.size).mono ?_
      rintro e w4 ⟨rfl, hF2, hb4, hl4⟩
      have hbw4 := hbw3.trans (hb4.mono hbw3.size)
      have ho4 := ownsRow_below4 ho3 hb4
      have hF1 : FramerAt w4 w.heap.size wr.heap.size (.slice none 0 0) [] 0 := FramerOf.keep (S := fun _ => False) hF1 (Turned.of_below hb4 (Nat.le_refl _)) (fun _ _ h => h)
      have hcv := conv_own4 ho4
      rw [HT.out] at hcv
      have hap : ApartF wr.heap.size (.slice none 0 0) w3.heap.size (.slice none 0 0) := by
        rintro x (rfl | e) (e2 | e2)
        · omega
        · cases e2
        · cases e
        · cases e
      clear ho3 hb3 hb4
      go_wp2_with fail
      refine (feed_any w.heap.size wr.heap.size _ [] rb _ 0 _ w4 hbw4.size hF1 rfl Hl1.out hs1 (by omega)).mono ?_
      rintro e w5 ⟨x, v1, rfl, hr1, hF1', ht5, hf1⟩
      have hF2' : FramerAt w5 w.heap.size w3.heap.size (.slice none 0 0) [] 0 := FramerOf.keep hF2 ht5 hap.symm
      have hap5 := hap.turn hF2 hf1
      have hbw5 : Below w.heap.size w w5 := hbw4.trans (ht5.below hbw4.size (fun b hb => (FramerOf.blocks hF1 b hb).1))
      have ho5 : w5.ownsRow g 5 1 (.slice (some ⟨g, 0, none⟩) K K) K (Lib.byteCells (List.replicate K c)) := ht5.row ho4 (fun x e hm => by
        have e2 : g = x := by simpa [Value.ownBlock] using e
        subst e2
        rcases hm with h | h
        · omega
        · cases h)
      clear hF1 hF2 hap hcv ho4
      go_wp2_with fail
      refine (feed_any w.heap.size w3.heap.size _ [] rb lb 0 b w5 hbw5.size hF2' rfl Hl.out (by omega) (by omega)).mono ?_
      rintro e w6 ⟨y, v2, rfl, hr2, hF2, ht6, hf2⟩
      have hF1 := FramerOf.keep hF1' ht6 hap5
      have hr1' := ht6.row hr1 (FramerOf.row_no hF2' hr1 (by decide) (by decide))
      have hbw6 : Below w.heap.size w w6 := hbw5.trans (ht6.below hbw5.size (fun b hb => (FramerOf.blocks hF2' b hb).1))
      have ho6 : w6.ownsRow g 5 1 (.slice (some ⟨g, 0, none⟩) K K) K (Lib.byteCells (List.replicate K c)) := ht6.row ho5 (fun x e hm => by
        have e2 : g = x := by simpa [Value.ownBlock] using e
        subst e2
        rcases hm with h | h
        · omega
        · cases h)
      have hF1d : ∀ q, FramerAt (w6.drewN q) w.heap.size wr.heap.size v1 rb _ := fun q => FramerOf.keep (S := fun _ => False) hF1 (Turned.of_below (below_drewN (Below.refl w6.heap.size _) q) (Nat.le_refl _)) (fun _ _ h => h)
      have hF2d : ∀ q, FramerAt (w6.drewN q) w.heap.size w3.heap.size v2 rb _ := fun q => FramerOf.keep (S := fun _ => False) hF2 (Turned.of_below (below_drewN (Below.refl w6.heap.size _) q) (Nat.le_refl _)) (fun _ _ h => h)
      have hw1d : ∀ q, Calls Try.prog 15 #[.pointer (some ⟨wr.heap.size, 0, none⟩)] (w6.drewN q) fun e w' => e = .returned (.int .i64 (waitF rb : Int)) ∧ w' = w6.drewN q := fun q => frwait_any _ _ _ _ _ _ (hF1d q)
      have hw2d : ∀ q, Calls Try.prog 15 #[.pointer (some ⟨w3.heap.size, 0, none⟩)] (w6.drewN q) fun e w' => e = .returned (.int .i64 (waitF rb : Int)) ∧ w' = w6.drewN q := fun q => frwait_any _ _ _ _ _ _ (hF2d q)
      have hcvd : ∀ q, (convert 52 9 (.slice (some ⟨g, 0, none⟩) K K)).run Try.prog (w6.drewN q) = .ok (.string T) (w6.drewN q) := fun q => by
        have := conv_own4 (ownsRow_below4 ho6 (below_drewN (Below.refl w6.heap.size _) q))
        rw [HT.out] at this
        exact this
      clear hF1' hF2' hr1 ho5 ho6 hF1 hF2 hF1d hF2d ht5 ht6 hf1 hf2 hap5
      have hlen1 : (List.replicate K c :: lb).length = lb.length + 1 := rfl
      rcases row_lines hr1' with ⟨h0, _⟩ | ⟨g1, cg1, rfl, _, hg1l, hgc⟩
      · cases h0
      obtain ⟨q0, q1⟩ := hgc 0 (by simp)
      rw [List.getElem_cons_zero, Hkl.out.1] at q0
      rw [List.getElem_cons_zero, Hkl.out.2] at q1
      obtain ⟨ao2, ca2, rfl⟩ := row_slice hr2
      obtain ⟨p, hp⟩ : ∃ p, waitF rb = p := ⟨_, rfl⟩
      rw [hp] at hw1d hw2d
      rw [hlen1]
      have hwn : IntKind.i64.wrap ((lb.length : Int) + 1) = (lb.length : Int) + 1 := by rw [IntKind.wrap_i64]; omega
      have Hgc := Lib.hid hgc
      have Hr2 := Lib.hid hr2
      clear hp hlen1 hgc hr2 hr1' Hl1 Hl Hkl hs1
      go_wp2_with fail
      by_cases hlong : 998 < K
      · rw [if_pos hlong] at q0
        rw [decide_eq_true hlong] at q1
        have hK9 : decide ((998 : Int) < (K : Int)) = true := decide_eq_true (by omega)
        go_quiet (first | (go_at_call_of 15 (Value.pointer (some ⟨wr.heap.size, 0, none⟩)); exact Calls.quiet_of_same (hw1d _)) | (go_at_call_of 15 (Value.pointer (some ⟨w3.heap.size, 0, none⟩)); exact Calls.quiet_of_same (hw2d _)))
        clear hw1d hw2d hcvd hK9 q0 q1
        have hbq := below_drewN hbw6 nq
        have hgq := below_drewN (Below.refl w6.heap.size w6) nq
        go_wp2
        go_loopw [14] (fun iv W => ∃ i : Nat, i ≤ lb.length ∧ iv = .int .i64 i ∧ Below w6.heap.size w6 W ∧ Below w.heap.size w W) (fun iv _ => lb.length - (intOf iv).toNat)
        case atStart => exact ⟨0, by omega, rfl, hgq, hbq⟩
        case round =>
          obtain ⟨i, hi1, rfl, hgr, hbr2⟩ := hrel
          by_cases hlt : i < lb.length
          · rcases row_lines Hr2.out with ⟨h0, _⟩ | ⟨g2, cg2, he, _, hg2l, hgc2⟩
            · rw [h0] at hlt
              cases hlt
            simp only [Value.slice.injEq, true_and] at he
            obtain ⟨rfl, rfl⟩ := he
            obtain ⟨p1, p2⟩ := Hgc.out (i + 1) (by simpa using hlt)
            obtain ⟨r1, r2⟩ := hgc2 i hlt
            rw [List.getElem_cons_succ] at p1 p2
            obtain ⟨Y, hY⟩ : ∃ Y, textQ (keptF lb[i]) = Y := ⟨_, rfl⟩
            obtain ⟨lo, hlo⟩ : ∃ lo, longF lb[i] = lo := ⟨_, rfl⟩
            rw [hY] at p1 r1
            rw [hlo] at p2 r2
            rw [← hgr.cell (p := ⟨g1, (i + 1) * 2, none⟩) hg1l] at p1
            rw [← hgr.cell (p := ⟨g1, (i + 1) * 2 + 1, none⟩) hg1l] at p2
            rw [← hgr.cell (p := ⟨g2, i * 2, none⟩) hg2l] at r1
            rw [← hgr.cell (p := ⟨g2, i * 2 + 1, none⟩) hg2l] at r2
            have k1 : (0 : Int) ≤ (i : Int) := by omega
            have k2 : (i : Int) < (lb.length : Int) := by omega
            have k3 : (0 : Int) ≤ (i : Int) + 1 := by omega
            have k4 : (i : Int) + 1 < (lb.length : Int) + 1 := by omega
            have hwi : IntKind.i64.wrap ((i : Int) + 1) = (i : Int) + 1 := by rw [IntKind.wrap_i64]; omega
            clear hgc2 hY hlo
            go_wp2
            go_quiet (fail)
            go_wp2
            go_roundw
            case rel => exact ⟨i + 1, by omega, by go_num, below_drewN hgr _, below_drewN hbr2 _⟩
            case measure => simp [intOf]; omega
          · obtain rfl : i = lb.length := by omega
            go_wp2
            go_ret
            exact ⟨rfl, hbr2⟩
      · rw [if_neg hlong] at q0
        rw [decide_eq_false hlong] at q1
        have hK9 : decide ((998 : Int) < (K : Int)) = false := decide_eq_false (by omega)
        go_quiet (first | (go_at_call_of 15 (Value.pointer (some ⟨wr.heap.size, 0, none⟩)); exact Calls.quiet_of_same (hw1d _)) | (go_at_call_of 15 (Value.pointer (some ⟨w3.heap.size, 0, none⟩)); exact Calls.quiet_of_same (hw2d _)))
        clear hw1d hw2d hcvd hK9 q0 q1
        have hbq := below_drewN hbw6 nq
        have hgq := below_drewN (Below.refl w6.heap.size w6) nq
        go_wp2
        go_loopw [14] (fun iv W => ∃ i : Nat, i ≤ lb.length ∧ iv = .int .i64 i ∧ Below w6.heap.size w6 W ∧ Below w.heap.size w W) (fun iv _ => lb.length - (intOf iv).toNat)
        case atStart => exact ⟨0, by omega, rfl, hgq, hbq⟩
        case round =>
          obtain ⟨i, hi1, rfl, hgr, hbr2⟩ := hrel
          by_cases hlt : i < lb.length
          · rcases row_lines Hr2.out with ⟨h0, _⟩ | ⟨g2, cg2, he, _, hg2l, hgc2⟩
            · rw [h0] at hlt
              cases hlt
            simp only [Value.slice.injEq, true_and] at he
            obtain ⟨rfl, rfl⟩ := he
            obtain ⟨p1, p2⟩ := Hgc.out (i + 1) (by simpa using hlt)
            obtain ⟨r1, r2⟩ := hgc2 i hlt
            rw [List.getElem_cons_succ] at p1 p2
            obtain ⟨Y, hY⟩ : ∃ Y, textQ (keptF lb[i]) = Y := ⟨_, rfl⟩
            obtain ⟨lo, hlo⟩ : ∃ lo, longF lb[i] = lo := ⟨_, rfl⟩
            rw [hY] at p1 r1
            rw [hlo] at p2 r2
            rw [← hgr.cell (p := ⟨g1, (i + 1) * 2, none⟩) hg1l] at p1
            rw [← hgr.cell (p := ⟨g1, (i + 1) * 2 + 1, none⟩) hg1l] at p2
            rw [← hgr.cell (p := ⟨g2, i * 2, none⟩) hg2l] at r1
            rw [← hgr.cell (p := ⟨g2, i * 2 + 1, none⟩) hg2l] at r2
            have k1 : (0 : Int) ≤ (i : Int) := by omega
            have k2 : (i : Int) < (lb.length : Int) := by omega
            have k3 : (0 : Int) ≤ (i : Int) + 1 := by omega
            have k4 : (i : Int) + 1 < (lb.length : Int) + 1 := by omega
            have hwi : IntKind.i64.wrap ((i : Int) + 1) = (i : Int) + 1 := by rw [IntKind.wrap_i64]; omega
            clear hgc2 hY hlo
            go_wp2
            go_quiet (fail)
            go_wp2
            go_roundw
            case rel => exact ⟨i + 1, by omega, by go_num, below_drewN hgr _, below_drewN hbr2 _⟩
            case measure => simp [intOf]; omega
          · obtain rfl : i = lb.length := by omega
            go_wp2
            go_ret
            exact ⟨rfl, hbr2⟩
end Go.Proofs.Ytflmbihdmmfcpaa
