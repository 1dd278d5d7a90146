/-
  The document's answer of layer 6, written in Go: a text unstuffed, told by the plain function.
-/
import Derived.Test.YtflmbihdmmfcpaaR6S
namespace Go.Proofs.Ytflmbihdmmfcpaa
open Go.RowKit

theorem un_L (s : List UInt8) : unF s = (unL (linesQ s)).map (fun x => (x.1, joinQ x.2)) := rfl
/-- What unstuffing goes on with: acc is told already. -/
def GoesU (s acc : List UInt8) (y : List (List UInt8)) : Prop := unF s = (unL y).map (fun x => (acc ++ x.1, joinQ x.2))
theorem goes_start (s : List UInt8) : GoesU s [] (linesQ s) := by
  unfold GoesU
  rw [un_L]
  rfl
theorem goes_last {s acc l : List UInt8} (h : GoesU s acc [l]) : unF s = none := h
theorem goes_dot {s acc t : List UInt8} (h : GoesU s acc ([46] :: linesQ t)) : unF s = some (acc, t) := by
  unfold GoesU at h
  rw [h, unL_dot (lines_ne t)]
  show some (acc ++ [], joinQ (linesQ t)) = _
  rw [join_lines, List.append_nil]
theorem goes_bad {s acc l t : List UInt8} (h : GoesU s acc (l :: linesQ t)) (h1 : l ≠ [46]) (h2 : badF l = true) : unF s = none := by
  unfold GoesU at h
  rw [h, unL_bad h1 h2]
  rfl
theorem goes_more {s acc l t : List UInt8} (h : GoesU s acc (l :: linesQ t)) (h1 : l ≠ [46]) (h2 : badF l = false) : GoesU s (acc ++ undotF l ++ [13, 10]) (linesQ t) := by
  unfold GoesU at h ⊢
  rw [h, unL_more (lines_ne t) h1 h2]
  cases unL (linesQ t) <;> simp
theorem head_two (X : ByteArray) (h : 0 < X.size) (hne : X.data.toList ≠ [46]) (hd : X.data.toList.head? = some 46) : 1 < X.size := by
  rcases Nat.lt_or_ge 1 X.size with h1 | h1
  · exact h1
  · have hl : X.data.toList.length = 1 := by
      have : X.data.toList.length = X.size := rfl
      omega
    obtain ⟨c, hc⟩ := List.length_eq_one_iff.1 hl
    rw [hc] at hd hne
    exact absurd (by rw [show c = 46 from Option.some.inj hd]) hne
theorem tail_get (X : ByteArray) (h : 1 < X.size) : X.data.toList.tail.head? = some X[1] := by
  have := get_at X 1 h
  rw [← this]
  cases X.data.toList with
  | nil => rfl
  | cons a l => cases l <;> rfl
theorem tail_text (X : ByteArray) : X.extract 1 X.size = textQ X.data.toList.tail := by
  rw [cut_text, List.take_of_length_le (by rw [List.length_drop]; exact Nat.le_refl _)]
  cases X.data.toList <;> rfl

set_option maxRecDepth 100000 in
set_option maxHeartbeats 4000000 in
theorem r6unst_any (s : ByteArray) (w : World) (hs : s.size ≤ 1000000) :
    Calls Try.prog 22 #[.string s] w fun e w' => e = .returned (unV (unF s.data.toList)) ∧ Below w.heap.size w w' := by
  obtain ⟨i0, hi, hz0, hz1, hz2⟩ := info_parts infoB4
  have Hsl : Hid (s.data.toList.length = s.size) := Lib.hid rfl
  go_enter Try.func22, Try.ntmps22
  go_wp2
  go_loopw [5, 6, 7, 8] (fun o fv iv _ wr => ∃ (f i : Nat) (acc : List UInt8), fv = .int .i64 f ∧ iv = .int .i64 i ∧ acc.length ≤ f ∧ OwnB w.heap.size wr o acc ∧ Below w.heap.size w wr ∧ AtF s.data.toList f i (GoesU s.data.toList acc)) (fun _ _ iv _ _ => s.size - (intOf iv).toNat)
  case atStart => exact ⟨0, 0, [], rfl, rfl, by simp, World.ownsRow_nil _ _ _ _, Below.refl _ _, .inl ⟨by omega, by omega, by rw [glue_start]; exact goes_start _⟩⟩
  case round =>
    obtain ⟨f, i, acc, rfl, rfl, hal, hown, hbr, hat⟩ := hrel
    have hbz := hbr.size
    have hle := at_le hat
    rw [Hsl.out] at hle
    obtain ⟨hfs, his⟩ := hle
    by_cases hlt : i + 1 < s.size
    · have ga := get_at s i (by omega)
      have gb := get_at s (i + 1) hlt
      have k1 : (0 : Int) ≤ (i : Int) := by omega
      have k2 : (i : Int) + 1 < (s.size : Int) := by omega
      by_cases hce : s[i] = 13 ∧ s[i + 1] = 10
      · rw [hce.1] at ga
        rw [hce.2] at gb
        obtain ⟨hf, hn⟩ := at_end hat ga gb
        have hx : s.extract f i = textQ ((s.data.toList.drop f).take (i - f)) := cut_text s f i
        have h13 := is13 hce.1
        have h10 := is10 hce.2
        have k3 : (f : Int) ≤ (i : Int) := by omega
        have k4 : (0 : Int) ≤ (f : Int) := by omega
        have k5 : (i : Int) ≤ (s.size : Int) := by omega
        obtain ⟨X, hX⟩ : ∃ X, s.extract f i = X := ⟨_, rfl⟩
        have hXl : X.data.toList = (s.data.toList.drop f).take (i - f) := by rw [← hX, hx]; rfl
        rw [← hXl] at hn
        have hXs : X.size ≤ i - f := by
          have h1 : X.data.toList.length = X.size := rfl
          rw [hXl, List.length_take] at h1
          omega
        clear hat hx hXl ga hce
        by_cases hd0 : X.data.toList = [46]
        · rw [hd0] at hn
          have hun := goes_dot hn
          have hbe : (X.toList == [46]) = true := by rw [Lib.toList_data, hd0]; rfl
          have hcv := conv_own4 hown
          have hx2 : s.extract (i + 2) s.size = textQ (s.data.toList.drop (i + 2)) := by
            rw [cut_text, List.take_of_length_le (by rw [List.length_drop, Hsl.out]; omega)]
          have Hun := Lib.hid hun
          have Hx2 := Lib.hid hx2
          have k6 : (0 : Int) ≤ (i : Int) + 2 := by omega
          have k7 : (i : Int) + 2 ≤ (s.size : Int) := by omega
          have hown0 := hown
          clear hn hd0 hun hx2 gb hown
          have hcvd : (convert 52 9 u5).run Try.prog wr.drew = .ok (.string ⟨acc.toArray⟩) wr.drew := conv_own4 (World.ownsRow.drew hown0)
          clear hown0
          go_wp2_with fail
          go_region_held3 (fun W => (convert 52 9 u5).run Try.prog W = .ok (.string ⟨acc.toArray⟩) W) (first | exact hcv | exact hcvd) (fail)
          have hx3 : s.extract ((i : Int) + 2).toNat s.size = textQ (s.data.toList.drop (i + 2)) := by
            rw [show ((i : Int) + 2).toNat = i + 2 by omega]
            exact Hx2.out
          have Hx3 := Lib.hid hx3
          clear hx3
          go_wp2
          go_ret3
          refine ⟨?_, hbr.drew⟩
          show Ending.returned (.tuple #[.string ⟨acc.toArray⟩, .string (s.extract ((i : Int) + 2).toNat s.size), .int .i64 0]) = _
          rw [Hun.out, Hx3.out]
          rfl
        · have hbe : (X.toList == [46]) = false := by rw [Lib.toList_data, beq_eq_false_iff_ne]; exact hd0
          by_cases hd : X.data.toList.head? = some 46
          · have hpos : 0 < X.size := by
              rcases Nat.eq_zero_or_pos X.size with h | h
              · have : X.data.toList = [] := List.eq_nil_of_length_eq_zero h
                rw [this] at hd
                cases hd
              · exact h
            have hpos2 := head_two X hpos hd0 hd
            have hg := head_get X hpos
            rw [hd] at hg
            have h46 : ((X[0].toNat : Int) == 46) = true := by rw [← Option.some.inj hg]; rfl
            have hg2 := tail_get X hpos2
            by_cases h2 : X[1] = 46
            · have hbad : badF X.data.toList = false := by
                rw [bad_yes hd, hg2, h2]
                rfl
              have hgo := goes_more hn hd0 hbad
              have h47 : ((X[1].toNat : Int) != 46) = false := by rw [h2]; rfl
              obtain ⟨Z, hZ⟩ : ∃ Z, X.extract 1 X.size = Z := ⟨_, rfl⟩
              have hZl : Z.data.toList = undotF X.data.toList := by
                rw [← hZ, tail_text]
                unfold undotF
                rw [if_pos hd]
                rfl
              have hZs : Z.size + 1 = X.size := by
                have h1 : Z.data.toList.length = Z.size := rfl
                have h3 : X.data.toList.length = X.size := rfl
                rw [hZl] at h1
                unfold undotF at h1
                rw [if_pos hd, List.length_tail, h3] at h1
                omega
              rw [← hZl] at hgo
              have Hat := Lib.hid (at_next gb hgo)
              have HX := Lib.hid hX
              have k8 : (1 : Int) ≤ (X.size : Int) := by omega
              clear hn hgo hbad hg hg2 h2 hd hd0 gb hZl
              go_wp2_with (at_builtin; refine Lib.wpList_append_own_string _ rfl (.tmp 53) (.tmp 54) 52 9 rfl w.heap.size 5 i0 Try.underlying52 Try.underlying9 hi hz0 hz1 hz2 _ _ _ rfl hown Z rfl (by unfold maxLen; omega) (by omega) hbz ?_)
              intro v3 w3 hown3 hgrow3 _
              have hb3 : Below w.heap.size w w3 := hbr.grown hgrow3 hbz fun k hk => (World.ownsRow.lt hown k hk).1
              have ho3 : OwnB w.heap.size w3 v3 (acc ++ Z.data.toList) := ownB_of hown3 (by simp <;> omega) (bytes_snoc _ _)
              have z3 := hb3.size
              clear hown3 hgrow3 hown
              go_wp2_with (at_builtin; refine wpList_append_own _ rfl (.tmp 56) (.tmp 57) 52 rfl w.heap.size 5 i0 (.int .u8 0) 1 1 Try.underlying52 hi hz0 hz1 hz2 rfl (by decide) _ _ _ rfl (World.ownsRow.alloc ho3 _) ⟨w3.heap.size, 0, none⟩ 2 2 [.int .u8 13, .int .u8 10] rfl rfl (World.news_of_block (cs := #[.int .u8 13, .int .u8 10]) (t := 5) (fr := (0, 0)) (heap_alloc_new w3 _)) (by simp [Value.oneCell']) (by unfold maxLen; simp; omega) (by simp; omega) (by simp; omega) ?_)
              intro v4 w4 hown4 hgrow4 _
              have hb4 : Below w.heap.size w w4 := (hb3.alloc z3 _).grown hgrow4 (by simp; omega) fun k hk => ((World.ownsRow.alloc ho3 (.cells #[.int .u8 13, .int .u8 10] 5)).lt k hk).1
              have ho4 : OwnB w.heap.size w4 v4 ((acc ++ Z.data.toList) ++ [13, 10]) := ownB_of hown4 (by simp <;> omega) (two_snoc _)
              clear hown4 hgrow4 ho3
              go_wp2
              go_roundw
              case rel => exact ⟨i + 2, i + 1, acc ++ Z.data.toList ++ [13, 10], by go_num, by go_num, by simp; omega, ho4, hb4, Hat.out⟩
              case measure => simp [intOf]; omega
            · have hbad : badF X.data.toList = true := by
                rw [bad_yes hd, hg2, decide_eq_false (fun e => h2 (Option.some.inj e))]
                rfl
              have Hun := Lib.hid (goes_bad hn hd0 hbad)
              have h47 : ((X[1].toNat : Int) != 46) = true := by
                rw [bne_iff_ne]
                intro e
                exact h2 (UInt8.toNat_inj.1 (by have : (46 : UInt8).toNat = 46 := rfl; omega))
              clear hn hbad hg hg2 h2 hd hd0 gb hown
              go_wp2
              go_ret3
              exact ⟨by rw [Hun.out]; rfl, hbr⟩
          · have hbad := bad_not hd
            have hgo := goes_more hn hd0 hbad
            rw [show undotF X.data.toList = X.data.toList by unfold undotF; rw [if_neg hd]] at hgo
            have Hat := Lib.hid (at_next gb hgo)
            obtain ⟨Z, hZ⟩ : ∃ Z, X = Z := ⟨_, rfl⟩
            by_cases hpos : 0 < X.size
            · have hg := head_get X hpos
              have h46 : ((X[0].toNat : Int) == 46) = false := by
                rw [beq_eq_false_iff_ne]
                intro e
                refine hd ?_
                rw [hg]
                exact congrArg some (UInt8.toNat_inj.1 (by have : (46 : UInt8).toNat = 46 := rfl; omega))
              clear hn hgo hbad hg hd hd0 gb
              subst hZ
              go_wp2_with (at_builtin; refine Lib.wpList_append_own_string _ rfl (.tmp 53) (.tmp 54) 52 9 rfl w.heap.size 5 i0 Try.underlying52 Try.underlying9 hi hz0 hz1 hz2 _ _ _ rfl hown X rfl (by unfold maxLen; omega) (by omega) hbz ?_)
              intro v3 w3 hown3 hgrow3 _
              have hb3 : Below w.heap.size w w3 := hbr.grown hgrow3 hbz fun k hk => (World.ownsRow.lt hown k hk).1
              have ho3 : OwnB w.heap.size w3 v3 (acc ++ X.data.toList) := ownB_of hown3 (by simp <;> omega) (bytes_snoc _ _)
              have z3 := hb3.size
              clear hown3 hgrow3 hown
              go_wp2_with (at_builtin; refine wpList_append_own _ rfl (.tmp 56) (.tmp 57) 52 rfl w.heap.size 5 i0 (.int .u8 0) 1 1 Try.underlying52 hi hz0 hz1 hz2 rfl (by decide) _ _ _ rfl (World.ownsRow.alloc ho3 _) ⟨w3.heap.size, 0, none⟩ 2 2 [.int .u8 13, .int .u8 10] rfl rfl (World.news_of_block (cs := #[.int .u8 13, .int .u8 10]) (t := 5) (fr := (0, 0)) (heap_alloc_new w3 _)) (by simp [Value.oneCell']) (by unfold maxLen; simp; omega) (by simp; omega) (by simp; omega) ?_)
              intro v4 w4 hown4 hgrow4 _
              have hb4 : Below w.heap.size w w4 := (hb3.alloc z3 _).grown hgrow4 (by simp; omega) fun k hk => ((World.ownsRow.alloc ho3 (.cells #[.int .u8 13, .int .u8 10] 5)).lt k hk).1
              have ho4 : OwnB w.heap.size w4 v4 ((acc ++ X.data.toList) ++ [13, 10]) := ownB_of hown4 (by simp <;> omega) (two_snoc _)
              clear hown4 hgrow4 ho3
              go_wp2
              go_roundw
              case rel => exact ⟨i + 2, i + 1, acc ++ X.data.toList ++ [13, 10], by go_num, by go_num, by simp; omega, ho4, hb4, Hat.out⟩
              case measure => simp [intOf]; omega
            · have hpos0 : X.size < 1 := by omega
              clear hn hgo hbad hd hd0 gb hpos
              subst hZ
              go_wp2_with (at_builtin; refine Lib.wpList_append_own_string _ rfl (.tmp 53) (.tmp 54) 52 9 rfl w.heap.size 5 i0 Try.underlying52 Try.underlying9 hi hz0 hz1 hz2 _ _ _ rfl hown X rfl (by unfold maxLen; omega) (by omega) hbz ?_)
              intro v3 w3 hown3 hgrow3 _
              have hb3 : Below w.heap.size w w3 := hbr.grown hgrow3 hbz fun k hk => (World.ownsRow.lt hown k hk).1
              have ho3 : OwnB w.heap.size w3 v3 (acc ++ X.data.toList) := ownB_of hown3 (by simp <;> omega) (bytes_snoc _ _)
              have z3 := hb3.size
              clear hown3 hgrow3 hown
              go_wp2_with (at_builtin; refine wpList_append_own _ rfl (.tmp 56) (.tmp 57) 52 rfl w.heap.size 5 i0 (.int .u8 0) 1 1 Try.underlying52 hi hz0 hz1 hz2 rfl (by decide) _ _ _ rfl (World.ownsRow.alloc ho3 _) ⟨w3.heap.size, 0, none⟩ 2 2 [.int .u8 13, .int .u8 10] rfl rfl (World.news_of_block (cs := #[.int .u8 13, .int .u8 10]) (t := 5) (fr := (0, 0)) (heap_alloc_new w3 _)) (by simp [Value.oneCell']) (by unfold maxLen; simp; omega) (by simp; omega) (by simp; omega) ?_)
              intro v4 w4 hown4 hgrow4 _
              have hb4 : Below w.heap.size w w4 := (hb3.alloc z3 _).grown hgrow4 (by simp; omega) fun k hk => ((World.ownsRow.alloc ho3 (.cells #[.int .u8 13, .int .u8 10] 5)).lt k hk).1
              have ho4 : OwnB w.heap.size w4 v4 ((acc ++ X.data.toList) ++ [13, 10]) := ownB_of hown4 (by simp <;> omega) (two_snoc _)
              clear hown4 hgrow4 ho3
              go_wp2
              go_roundw
              case rel => exact ⟨i + 2, i + 1, acc ++ X.data.toList ++ [13, 10], by go_num, by go_num, by simp; omega, ho4, hb4, Hat.out⟩
              case measure => simp [intOf]; omega
      · have Hat := Lib.hid (at_byte hat ga gb hce)
        clear hat ga gb
        by_cases h1 : s[i] = 13
        · have h13 := is13 h1
          have h10 := no10 (fun e => hce ⟨h1, e⟩)
          clear hce h1
          go_wp2
          go_roundw
          case rel => exact ⟨f, i + 1, acc, rfl, by go_num, by omega, hown, hbr, Hat.out⟩
          case measure => simp [intOf]; omega
        · have h13 := no13 h1
          clear hce h1
          go_wp2
          go_roundw
          case rel => exact ⟨f, i + 1, acc, rfl, by go_num, by omega, hown, hbr, Hat.out⟩
          case measure => simp [intOf]; omega
    · obtain ⟨_, hn⟩ := at_last hat (by rw [Hsl.out]; omega)
      have Hun := Lib.hid (goes_last hn)
      clear hat hn hown
      go_wp2
      go_ret3
      exact ⟨by rw [Hun.out]; rfl, hbr⟩
end Go.Proofs.Ytflmbihdmmfcpaa
