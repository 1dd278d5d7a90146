/-
  The document's answer of layer 6, written in Go: a text stuffed, told by the plain function.
-/
import Derived.Test.YtflmbihdmmfcpaaR6L
import Derived.Deep.AppendLies
namespace Go.Proofs.Ytflmbihdmmfcpaa
open Go.RowKit

/-- The call's own row of bytes. -/
def OwnB (B : Nat) (w : World) (v : Value) (acc : List UInt8) : Prop := w.ownsRow B 5 1 v acc.length (Lib.byteCells acc)
theorem two_snoc (acc : List UInt8) : Lib.byteCells acc ++ [.int .u8 13, .int .u8 10] = Lib.byteCells (acc ++ [13, 10]) := by
  rw [Lib.byteCells_append]
  rfl
theorem ownB_of {B n : Nat} {w : World} {v : Value} {acc : List UInt8} {xs : List Value} (h2 : w.ownsRow B 5 1 v n xs) (hn : n = acc.length) (hx : xs = Lib.byteCells acc) : OwnB B w v acc := by
  subst hn hx
  exact h2
theorem head_get (X : ByteArray) (h : 0 < X.size) : X.data.toList.head? = some X[0] := by
  have := get_at X 0 h
  rw [← this]
  cases X.data.toList <;> rfl

set_option maxRecDepth 100000 in
set_option maxHeartbeats 4000000 in
theorem r6stuff_any (s : ByteArray) (ls : List (List UInt8)) (r : List UInt8) (w : World) (hs : s.size ≤ 1000000) (hl : linesQ s.data.toList = ls ++ [r]) :
    Calls Try.prog 20 #[.string s] w fun e w' => e = .returned (.tuple #[.string ⟨(stuffR ls r).toArray⟩, .int .i64 (codeF r)]) ∧ Below w.heap.size w w' := by
  obtain ⟨i0, hi, hz0, hz1, hz2⟩ := info_parts infoB4
  have hlin := r6lines_any s ls r w hs hl
  have hsz : (wholeF ls).length ≤ s.size := by
    have h1 : s.data.toList.length = s.size := rfl
    rw [whole_text hl, List.length_append] at h1
    omega
  have hcnt : ls.length ≤ 1000000 := Nat.le_trans (whole_count ls) (by omega)
  clear hl
  by_cases hr : r = []
  · subst hr
    rw [show goodF ls [] = ls from rfl, show codeF [] = 0 from rfl] at hlin
    rw [show codeF [] = 0 from rfl, show stuffR ls [] = stuffF ls from rfl]
    go_enter Try.func20, Try.ntmps20
    go_wp2_with fail
    refine hlin.mono ?_
    rintro e w1 ⟨v, rfl, hown, hw1⟩
    obtain ⟨A, c, rfl, hS⟩ := Strs.of_own hown
    have hz := hw1.size
    clear hlin hown
    go_wp2
    go_loopw [6, 7] (fun o iv wr => ∃ (i : Nat), i ≤ ls.length ∧ iv = .int .i64 i ∧ OwnB w1.heap.size wr o (wholeF ((ls.take i).map dotF)) ∧ Below w1.heap.size w1 wr) (fun _ iv _ => ls.length - (intOf iv).toNat)
    case atStart => exact ⟨0, by omega, rfl, World.ownsRow_nil _ _ _ _, Below.refl _ _⟩
    case round =>
      obtain ⟨i, hi1, rfl, hown, hbr⟩ := hrel
      have hzr := hbr.size
      by_cases hlt : i < ls.length
      · have hS1 := hS.below hbr
        obtain ⟨bb, off, rfl, hbB, hcl⟩ := hS1.at_ hlt
        have hc := hcl i hlt
        rw [texts_get ls i hlt] at hc
        obtain ⟨X, hX⟩ : ∃ X, textQ ls[i] = X := ⟨_, rfl⟩
        have hXl : X.data.toList = ls[i] := by rw [← hX]; rfl
        have hXs : X.size = ls[i].length := by rw [← hX]; rfl
        rw [hX] at hc
        have hst := take_dot ls i hlt
        have h1 := whole_mem ls i hlt
        have h2 := Nat.le_trans (whole_dot_len (ls.take i)) (Nat.mul_le_mul_left 2 (whole_take ls i))
        obtain ⟨acc, hacc⟩ : ∃ acc, wholeF ((ls.take i).map dotF) = acc := ⟨_, rfl⟩
        rw [hacc] at hown hst h2
        rw [← hXl] at hst
        have hX8 : X.size ≤ 1000000 := by omega
        have hacc8 : acc.length ≤ 2000000 := by omega
        have Hc : Hid (∀ W, Below w1.heap.size w1 W → W.cell? ⟨bb, off + i, none⟩ = some (.string X)) := Lib.hid fun W hW => by
          have := (hS.below hW).at_ hlt
          obtain ⟨b', off', e, _, hcl'⟩ := this
          cases e
          rw [hcl' i hlt, texts_get ls i hlt, hX]
        have Hst := Lib.hid hst
        have HS := Lib.hid hS
        have hlb : bb < wr.heap.size := by omega
        clear hcl hS hS1 hX hXs h1 h2 hacc hst
        by_cases hd : X.data.toList.head? = some 46
        · have hpos : 0 < X.size := by
            rcases Nat.eq_zero_or_pos X.size with h | h
            · have : X.data.toList = [] := List.eq_nil_of_length_eq_zero h
              rw [this] at hd
              cases hd
            · exact h
          have hg := head_get X hpos
          rw [hd] at hg
          have h46 : ((X[0].toNat : Int) == 46) = true := by rw [← Option.some.inj hg]; rfl
          have hdot : dotF X.data.toList = 46 :: X.data.toList := by unfold dotF; rw [if_pos hd]
          have Hdot := Lib.hid hdot
          clear hd hdot hXl hg
          go_wp2_with (at_builtin; refine wpList_append_own _ rfl (.tmp 36) (.tmp 37) 52 rfl w1.heap.size 5 i0 (.int .u8 0) 1 1 Try.underlying52 hi hz0 hz1 hz2 rfl (by decide) _ acc.length (Lib.byteCells acc) rfl (World.ownsRow.alloc hown _) ⟨wr.heap.size, 0, none⟩ 1 1 [.int .u8 46] rfl rfl (World.news_of_block (cs := #[.int .u8 46]) (t := 5) (fr := (0, 0)) (heap_alloc_new wr _)) (by simp [Value.oneCell']) (by unfold maxLen; omega) (by omega) (by simp; omega) ?_)
          intro v2 w2 hown2 hgrow2 _
          have hb2 : Below w1.heap.size w1 w2 := (hbr.alloc hzr _).grown hgrow2 (by simp; omega) fun k hk => ((World.ownsRow.alloc hown (.cells #[.int .u8 46] 5)).lt k hk).1
          have ho2 : OwnB w1.heap.size w2 v2 (acc ++ [46]) := ownB_of hown2 (by simp) (by rw [Lib.byteCells_append]; rfl)
          have c2 := Hc.out w2 hb2
          have z2 := hb2.size
          clear hown2 hgrow2 hown hc
          go_wp2_with (at_builtin; refine Lib.wpList_append_own_string _ rfl (.tmp 39) (.tmp 43) 52 9 rfl w1.heap.size 5 i0 Try.underlying52 Try.underlying9 hi hz0 hz1 hz2 _ _ _ rfl ho2 X rfl (by unfold maxLen; simp; omega) (by simp; omega) z2 ?_)
          intro v3 w3 hown3 hgrow3 _
          have hb3 : Below w1.heap.size w1 w3 := hb2.grown hgrow3 z2 fun k hk => (World.ownsRow.lt ho2 k hk).1
          have ho3 : OwnB w1.heap.size w3 v3 ((acc ++ [46]) ++ X.data.toList) := ownB_of hown3 (by simp <;> omega) (bytes_snoc _ _)
          have z3 := hb3.size
          clear hown3 hgrow3 ho2 c2
          go_wp2_with (at_builtin; refine wpList_append_own _ rfl (.tmp 45) (.tmp 46) 52 rfl w1.heap.size 5 i0 (.int .u8 0) 1 1 Try.underlying52 hi hz0 hz1 hz2 rfl (by decide) _ _ _ rfl (World.ownsRow.alloc ho3 _) ⟨w3.heap.size, 0, none⟩ 2 2 [.int .u8 13, .int .u8 10] rfl rfl (World.news_of_block (cs := #[.int .u8 13, .int .u8 10]) (t := 5) (fr := (0, 0)) (heap_alloc_new w3 _)) (by simp [Value.oneCell']) (by unfold maxLen; simp; omega) (by simp; omega) (by simp; omega) ?_)
          intro v4 w4 hown4 hgrow4 _
          have hb4 : Below w1.heap.size w1 w4 := (hb3.alloc z3 _).grown hgrow4 (by simp; omega) fun k hk => ((World.ownsRow.alloc ho3 (.cells #[.int .u8 13, .int .u8 10] 5)).lt k hk).1
          have ho4 : OwnB w1.heap.size w4 v4 (((acc ++ [46]) ++ X.data.toList) ++ [13, 10]) := ownB_of hown4 (by simp <;> omega) (by rw [two_snoc]; simp)
          have ho5 : OwnB w1.heap.size w4 v4 (wholeF ((ls.take (i + 1)).map dotF)) := by
            rw [Hst.out, Hdot.out]
            simpa using ho4
          clear hown4 hgrow4 ho3 ho4
          go_wp2
          go_roundw
          case rel => exact ⟨i + 1, by omega, by go_num, ho5, hb4⟩
          case measure => simp [intOf]; omega
        · have hdot : dotF X.data.toList = X.data.toList := by unfold dotF; rw [if_neg hd]
          have Hdot := Lib.hid hdot
          by_cases hpos : 0 < X.size
          · have hg := head_get X hpos
            have h46 : ((X[0].toNat : Int) == 46) = false := by
              rw [beq_eq_false_iff_ne]
              intro e
              refine hd ?_
              rw [hg]
              exact congrArg some (UInt8.toNat_inj.1 (by have : (46 : UInt8).toNat = 46 := rfl; omega))
            clear hd hdot hXl hg
            go_wp2_with (at_builtin; refine Lib.wpList_append_own_string _ rfl (.tmp 39) (.tmp 43) 52 9 rfl w1.heap.size 5 i0 Try.underlying52 Try.underlying9 hi hz0 hz1 hz2 _ _ _ rfl hown X rfl (by unfold maxLen; omega) (by omega) hzr ?_)
            intro v3 w3 hown3 hgrow3 _
            have hb3 : Below w1.heap.size w1 w3 := hbr.grown hgrow3 hzr fun k hk => (World.ownsRow.lt hown k hk).1
            have ho3 : OwnB w1.heap.size w3 v3 (acc ++ X.data.toList) := ownB_of hown3 (by simp <;> omega) (bytes_snoc _ _)
            have z3 := hb3.size
            clear hown3 hgrow3 hown hc
            go_wp2_with (at_builtin; refine wpList_append_own _ rfl (.tmp 45) (.tmp 46) 52 rfl w1.heap.size 5 i0 (.int .u8 0) 1 1 Try.underlying52 hi hz0 hz1 hz2 rfl (by decide) _ _ _ rfl (World.ownsRow.alloc ho3 _) ⟨w3.heap.size, 0, none⟩ 2 2 [.int .u8 13, .int .u8 10] rfl rfl (World.news_of_block (cs := #[.int .u8 13, .int .u8 10]) (t := 5) (fr := (0, 0)) (heap_alloc_new w3 _)) (by simp [Value.oneCell']) (by unfold maxLen; simp; omega) (by simp; omega) (by simp; omega) ?_)
            intro v4 w4 hown4 hgrow4 _
            have hb4 : Below w1.heap.size w1 w4 := (hb3.alloc z3 _).grown hgrow4 (by simp; omega) fun k hk => ((World.ownsRow.alloc ho3 (.cells #[.int .u8 13, .int .u8 10] 5)).lt k hk).1
            have ho4 : OwnB w1.heap.size w4 v4 ((acc ++ X.data.toList) ++ [13, 10]) := ownB_of hown4 (by simp <;> omega) (two_snoc _)
            have ho5 : OwnB w1.heap.size w4 v4 (wholeF ((ls.take (i + 1)).map dotF)) := by
              rw [Hst.out, Hdot.out]
              simpa using ho4
            clear hown4 hgrow4 ho3 ho4
            go_wp2
            go_roundw
            case rel => exact ⟨i + 1, by omega, by go_num, ho5, hb4⟩
            case measure => simp [intOf]; omega
          · have hpos0 : X.size < 1 := by omega
            clear hd hdot hXl hpos
            go_wp2_with (at_builtin; refine Lib.wpList_append_own_string _ rfl (.tmp 39) (.tmp 43) 52 9 rfl w1.heap.size 5 i0 Try.underlying52 Try.underlying9 hi hz0 hz1 hz2 _ _ _ rfl hown X rfl (by unfold maxLen; omega) (by omega) hzr ?_)
            intro v3 w3 hown3 hgrow3 _
            have hb3 : Below w1.heap.size w1 w3 := hbr.grown hgrow3 hzr fun k hk => (World.ownsRow.lt hown k hk).1
            have ho3 : OwnB w1.heap.size w3 v3 (acc ++ X.data.toList) := ownB_of hown3 (by simp <;> omega) (bytes_snoc _ _)
            have z3 := hb3.size
            clear hown3 hgrow3 hown hc
            go_wp2_with (at_builtin; refine wpList_append_own _ rfl (.tmp 45) (.tmp 46) 52 rfl w1.heap.size 5 i0 (.int .u8 0) 1 1 Try.underlying52 hi hz0 hz1 hz2 rfl (by decide) _ _ _ rfl (World.ownsRow.alloc ho3 _) ⟨w3.heap.size, 0, none⟩ 2 2 [.int .u8 13, .int .u8 10] rfl rfl (World.news_of_block (cs := #[.int .u8 13, .int .u8 10]) (t := 5) (fr := (0, 0)) (heap_alloc_new w3 _)) (by simp [Value.oneCell']) (by unfold maxLen; simp; omega) (by simp; omega) (by simp; omega) ?_)
            intro v4 w4 hown4 hgrow4 _
            have hb4 : Below w1.heap.size w1 w4 := (hb3.alloc z3 _).grown hgrow4 (by simp; omega) fun k hk => ((World.ownsRow.alloc ho3 (.cells #[.int .u8 13, .int .u8 10] 5)).lt k hk).1
            have ho4 : OwnB w1.heap.size w4 v4 ((acc ++ X.data.toList) ++ [13, 10]) := ownB_of hown4 (by simp <;> omega) (two_snoc _)
            have ho5 : OwnB w1.heap.size w4 v4 (wholeF ((ls.take (i + 1)).map dotF)) := by
              rw [Hst.out, Hdot.out]
              simpa using ho4
            clear hown4 hgrow4 ho3 ho4
            go_wp2
            go_roundw
            case rel => exact ⟨i + 1, by omega, by go_num, ho5, hb4⟩
            case measure => simp [intOf]; omega
      · obtain rfl : i = ls.length := by omega
        have h2 := whole_dot_len ls
        rw [List.take_length] at hown
        have hcv := conv_own4 hown
        have hfin : (⟨(wholeF (ls.map dotF)).toArray⟩ : ByteArray) ++ ⟨#[46, 13, 10]⟩ = ⟨(stuffF ls).toArray⟩ := by
          apply ByteArray.ext
          apply Array.ext'
          unfold stuffF
          simp
        obtain ⟨Y, hY⟩ : ∃ Y : ByteArray, (⟨(wholeF (ls.map dotF)).toArray⟩ : ByteArray) = Y := ⟨_, rfl⟩
        have hYs : Y.size = (wholeF (ls.map dotF)).length := by rw [← hY]; rfl
        rw [hY] at hcv hfin
        have Hfin := Lib.hid hfin
        have hY8 : Y.size ≤ 2000000 := by omega
        have Hbb := Lib.hid (hw1.trans (hbr.mono hz))
        clear hfin hY hYs h2 hown
        go_wp2
        go_ret2
        exact ⟨by rw [← Hfin.out]; rfl, Hbb.out⟩
  · have hcd : codeF r = 2 ∧ goodF ls r = [] ∧ stuffR ls r = [] := ⟨by unfold codeF; rw [if_neg hr], by unfold goodF; rw [if_neg hr], by unfold stuffR; rw [if_neg hr]⟩
    rw [hcd.1] at hlin
    have Hcd := Lib.hid hcd
    clear hcd hr
    go_enter Try.func20, Try.ntmps20
    go_wp2_with fail
    refine hlin.mono ?_
    rintro e w1 ⟨v, rfl, hown, hw1⟩
    go_wp2
    go_ret2
    exact ⟨by rw [Hcd.out.1, Hcd.out.2.2]; rfl, hw1⟩
end Go.Proofs.Ytflmbihdmmfcpaa
