/-
  The document's answer of layer 10: a field's folded lines.
-/
import Derived.Test.YtneihcdeflfahaaDoorR10C
import Derived.Test.YtneihcdeflfahaaDoorH10F
namespace Go.Proofs.YtneihcdeflfahaaDoor
open Go.RowKit

theorem split_moreH (l : List UInt8) (f i : Nat) (hf : f ≤ i) (hn : (32 : UInt8) ∉ (l.drop f).take (i - f)) (hi : i < l.length) (hc : l[i] = 32) : splitB 32 (l.drop f) = (l.drop f).take (i - f) :: splitB 32 (l.drop (i + 1)) := by
  have e : l.drop f = (l.drop f).take (i - f) ++ 32 :: l.drop (i + 1) := by
    have h1 : (l.drop f).drop (i - f) = l.drop i := by rw [List.drop_drop]; congr 1; omega
    have h2 : l.drop i = 32 :: l.drop (i + 1) := by rw [List.drop_eq_getElem_cons hi, hc]
    rw [← h2, ← h1, List.take_append_drop]
  conv => lhs; rw [e]
  exact splitB_at 32 _ _ hn
theorem split_lastH (l : List UInt8) (f : Nat) (hn : (32 : UInt8) ∉ (l.drop f).take (l.length - f)) : splitB 32 (l.drop f) = [(l.drop f).take (l.length - f)] := by
  have e : (l.drop f).take (l.length - f) = l.drop f := List.take_of_length_le (by rw [List.length_drop]; omega)
  rw [e] at hn ⊢
  exact splitB_one 32 _ hn
theorem no_moreH (l : List UInt8) (f i : Nat) (hf : f ≤ i) (hn : (32 : UInt8) ∉ (l.drop f).take (i - f)) (hi : i < l.length) (hc : l[i] ≠ 32) : (32 : UInt8) ∉ (l.drop f).take (i + 1 - f) := by
  have e : (l.drop f).take (i + 1 - f) = (l.drop f).take (i - f) ++ [l[i]] := by
    rw [show i + 1 - f = (i - f) + 1 by omega, List.take_succ_eq_append_getElem (by rw [List.length_drop]; omega)]
    simp only [List.getElem_drop, show f + (i - f) = i by omega]
  rw [e]
  intro h
  rcases List.mem_append.1 h with h | h
  · exact hn h
  · exact hc (List.mem_singleton.1 h).symm
/-- What a field's folded lines are, and whether the longest is too long. -/
def FoldSt (b a0 : TextH) (k0 fr i : Nat) (O : ByteArray) (k M : Nat) : Prop :=
  k ≤ O.size ∧ M ≤ O.size ∧ O.size ≤ a0.length + 3 * fr ∧ fr ≤ b.length + 1 ∧ fr ≤ i ∧ ∃ pre : List TextH, O.data.toList = (soFarH a0 k0 pre).1 ∧ k = (soFarH a0 k0 pre).2.1 ∧ (soFarH a0 k0 pre).2.2.1 = decide (fr = 0) ∧ (soFarH a0 k0 pre).2.2.2 = decide (M ≤ 998) ∧
    ((i ≤ b.length ∧ (32 : UInt8) ∉ (b.drop fr).take (i - fr) ∧ splitB 32 b = pre ++ splitB 32 (b.drop fr)) ∨ (i = b.length + 1 ∧ splitB 32 b = pre))
theorem fold_start (b a0 : TextH) (k0 : Nat) (O : ByteArray) (hO : O.data.toList = a0) (hk : k0 = O.size) (hk9 : k0 ≤ 998) : FoldSt b a0 k0 0 0 O k0 k0 :=
  ⟨by omega, by omega, by rw [← hO]; exact Nat.le_refl _, by omega, Nat.le_refl _, [], by rw [hO]; rfl, rfl, rfl, by rw [decide_eq_true hk9]; rfl, .inl ⟨Nat.zero_le _, by simp, rfl⟩⟩
theorem fold_skip {b a0 : TextH} {k0 fr i : Nat} {O : ByteArray} {k M : Nat} (h : FoldSt b a0 k0 fr i O k M) (hi : i < b.length) (hc : b[i] ≠ 32) : FoldSt b a0 k0 fr (i + 1) O k M := by
  obtain ⟨g1, g2, g3, g4, g5, pre, h1, h2, h3, h4, h5⟩ := h
  rcases h5 with ⟨_, hn, hs⟩ | ⟨e, _⟩
  · exact ⟨g1, g2, g3, g4, by omega, pre, h1, h2, h3, h4, .inl ⟨by omega, no_moreH b fr i g5 hn hi hc, hs⟩⟩
  · omega
theorem fold_next {b a0 : TextH} {k0 fr i : Nat} {O : ByteArray} {k M : Nat} (h : FoldSt b a0 k0 fr i O k M) (hi : i ≤ b.length) (hc : ∀ h : i < b.length, b[i] = 32) (W : ByteArray) (hW : W.data.toList = (b.drop fr).take (i - fr)) (n' M' : Nat) (O' : ByteArray) (hM : M' = max M n')
    (hcase : ((0 < fr ∧ 0 < W.size ∧ 78 < k + 1 + W.size) ∧ n' = 1 + W.size ∧ O'.data.toList = O.data.toList ++ [13, 10] ++ [32] ++ W.data.toList) ∨ (¬ (0 < fr ∧ 0 < W.size ∧ 78 < k + 1 + W.size) ∧ n' = k + 1 + W.size ∧ O'.data.toList = O.data.toList ++ [32] ++ W.data.toList)) :
    FoldSt b a0 k0 (i + 1) (i + 1) O' n' M' := by
  obtain ⟨g1, g2, g3, g4, g5, pre, h1, h2, h3, h4, h5⟩ := h
  rcases h5 with ⟨_, hn, hs⟩ | ⟨e, _⟩
  · have hWl : W.data.toList.length = W.size := rfl
    have hWs : W.size = i - fr := by
      rw [← hWl, hW, List.length_take, List.length_drop]
      omega
    have hOl : O.data.toList.length = O.size := rfl
    have hOl' : O'.data.toList.length = O'.size := rfl
    obtain ⟨x, hx⟩ : ∃ x, W.data.toList = x := ⟨_, rfl⟩
    rw [hx] at hW hcase hWl
    have hsn := soFarH_snoc a0 k0 pre x
    have hne : (x ≠ []) ↔ 0 < W.size := by
      rw [← hWl]
      exact List.length_pos_iff.symm
    have hbr : brkH (soFarH a0 k0 pre).2.2.1 (soFarH a0 k0 pre).2.1 x = true ↔ (0 < fr ∧ 0 < W.size ∧ 78 < k + 1 + W.size) := by
      unfold brkH
      rw [h3, ← h2, Bool.and_eq_true, Bool.and_eq_true, decide_eq_true_eq, decide_eq_true_eq, hne, hWl, Nat.add_assoc, Bool.not_eq_true', decide_eq_false_iff_not]
      omega
    have hfin : ((i + 1 ≤ b.length ∧ (32 : UInt8) ∉ (b.drop (i + 1)).take (i + 1 - (i + 1)) ∧ splitB 32 b = (pre ++ [x]) ++ splitB 32 (b.drop (i + 1))) ∨ (i + 1 = b.length + 1 ∧ splitB 32 b = pre ++ [x])) := by
      by_cases hlt : i < b.length
      · refine .inl ⟨by omega, by simp, ?_⟩
        rw [hs, split_moreH b fr i g5 hn hlt (hc hlt), ← hW, List.append_assoc]
        rfl
      · obtain rfl : i = b.length := by omega
        refine .inr ⟨rfl, ?_⟩
        rw [hs, split_lastH b fr hn, ← hW]
    have hz0 : decide (i + 1 = 0) = false := decide_eq_false (by omega)
    rcases hcase with ⟨c1, rfl, c3⟩ | ⟨c1, rfl, c3⟩
    · have hb := hbr.2 c1
      have hO's : O'.size = O.size + 3 + W.size := by
        rw [← hOl', c3]
        simp
        omega
      refine ⟨by omega, by omega, by omega, by omega, Nat.le_refl _, pre ++ [x], ?_, ?_, ?_, ?_, hfin⟩
      · rw [hsn, c3, h1]
        unfold layR10 pieceH
        rw [hb, if_pos rfl]
        simp
      · rw [hsn]
        unfold layR10 lineH
        rw [hb, if_pos rfl]
        show 1 + W.size = 0 + (1 + x.length)
        omega
      · rw [hsn, hz0]
        rfl
      · rw [hsn]
        unfold layR10 lineH
        rw [hb, if_pos rfl, h4, hM, Bool.eq_iff_iff, Bool.and_eq_true, decide_eq_true_eq, decide_eq_true_eq, decide_eq_true_eq]
        omega
    · have hb : brkH (soFarH a0 k0 pre).2.2.1 (soFarH a0 k0 pre).2.1 x = false := by
        cases h : brkH (soFarH a0 k0 pre).2.2.1 (soFarH a0 k0 pre).2.1 x with
        | false => rfl
        | true => exact absurd (hbr.1 h) c1
      have hO's : O'.size = O.size + 1 + W.size := by
        rw [← hOl', c3]
        simp
        omega
      refine ⟨by omega, by omega, by omega, by omega, Nat.le_refl _, pre ++ [x], ?_, ?_, ?_, ?_, hfin⟩
      · rw [hsn, c3, h1]
        unfold layR10 pieceH
        rw [hb, if_neg (by simp)]
        simp
      · rw [hsn]
        unfold layR10 lineH
        rw [hb, if_neg (by simp)]
        show k + 1 + W.size = (soFarH a0 k0 pre).2.1 + (1 + x.length)
        rw [← h2]
        omega
      · rw [hsn, hz0]
        rfl
      · rw [hsn]
        unfold layR10 lineH
        rw [hb, if_neg (by simp), h4, hM, ← h2, Bool.eq_iff_iff, Bool.and_eq_true, decide_eq_true_eq, decide_eq_true_eq, decide_eq_true_eq]
        omega
  · omega
theorem fold_end {f : FieldH} (hn : f.1.length ≤ 900) (hb : f.2 ≠ []) {fr : Nat} {O : ByteArray} {k M : Nat} (h : FoldSt f.2 (f.1 ++ [58]) (f.1.length + 1) fr (f.2.length + 1) O k M) : O.data.toList ++ [13, 10] = endH (linesH f) ∧ decide (998 < M) = longH (linesH f) := by
  obtain ⟨_, _, _, _, _, pre, h1, _, _, h4, h5⟩ := h
  rcases h5 with ⟨h5, _⟩ | ⟨_, h5⟩
  · omega
  · obtain ⟨q1, q2⟩ := lay_text f hn hb []
    rw [List.nil_append, h5] at q1 q2
    rw [h1, q2]
    refine ⟨rfl, ?_⟩
    rw [h4] at q1
    cases hl : longH (linesH f) with
    | true =>
      rw [hl] at q1
      have := of_decide_eq_false q1
      exact decide_eq_true (by omega)
    | false =>
      rw [hl] at q1
      have := of_decide_eq_true q1
      exact decide_eq_false (by omega)

set_option maxRecDepth 100000 in
set_option maxHeartbeats 8000000 in
theorem r10fold_any (f : FieldH) (w : World) (hn : f.1.length ≤ 64) (hs : f.2.length ≤ 1000000) : Calls Tryd.prog 25 #[fieldV f] w fun e w' => ∃ M : Nat, e = .returned (.tuple #[.string (textQ (endH (linesH f))), .int .i64 M]) ∧ decide (998 < M) = longH (linesH f) ∧ M ≤ 10000000 ∧ Below w.heap.size w w' := by
  obtain ⟨X, hX⟩ : ∃ X, textQ f.1 = X := ⟨_, rfl⟩
  obtain ⟨Y, hY⟩ : ∃ Y, textQ f.2 = Y := ⟨_, rfl⟩
  have hXs : X.size = f.1.length := by rw [← hX]; rfl
  have hYs : Y.size = f.2.length := by rw [← hY]; rfl
  have hYd : Y.data.toList = f.2 := by rw [← hY]; rfl
  obtain ⟨O0, hO0⟩ : ∃ O, X ++ ⟨#[58]⟩ = O := ⟨_, rfl⟩
  have hO0d : O0.data.toList = f.1 ++ [58] := by
    rw [← hO0, ByteArray.data_append, Array.toList_append, ← hX]
    rfl
  have hO0s : O0.size = f.1.length + 1 := by
    have : O0.size = O0.data.toList.length := rfl
    rw [this, hO0d]
    simp
  unfold fieldV
  rw [hX, hY]
  obtain ⟨wA, hwA⟩ : ∃ W, w.alloc (.cells #[.string X, .string Y] 38) = W := ⟨_, rfl⟩
  have bA : Below w.heap.size w wA := by rw [← hwA]; exact (Below.refl _ _).alloc (Nat.le_refl _) _
  have hh : wA.heap[w.heap.size]? = some (.cells #[.string X, .string Y] 38 (0, 0)) := by rw [← hwA]; exact heap_alloc_new w _
  have c0 : wA.cell? ⟨w.heap.size, 0, none⟩ = some (.string X) := Lib.cell_of_heap hh 0
  have c1 : wA.cell? ⟨w.heap.size, 1, none⟩ = some (.string Y) := Lib.cell_of_heap hh 1
  have BA := Lib.hid bA
  have HYd := Lib.hid hYd
  have hcat0 : ¬ 9223372036854775807 < X.size + 1 := by omega
  have hcat1 : ¬ 9223372036854775807 < O0.size + 2 := by omega
  have l1 : (⟨#[58]⟩ : ByteArray).size = 1 := rfl
  have l2 : (⟨#[13, 10]⟩ : ByteArray).size = 2 := rfl
  have l3 : (⟨#[32]⟩ : ByteArray).size = 1 := rfl
  by_cases hb : f.2 = []
  · have he : Y.toList.isEmpty = true := by rw [Lib.toList_data, hYd, hb]; rfl
    have Hr : Hid (textQ (endH (linesH f)) = O0 ++ ⟨#[13, 10]⟩) := Lib.hid (by
      have := lay_none f hb []
      rw [List.nil_append, List.nil_append] at this
      rw [← this, ← hO0d]
      refine ByteArray.ext ?_
      rw [ByteArray.data_append]
      exact Array.toList_inj.1 (by rw [Array.toList_append]; rfl))
    have Hl : Hid (decide (998 < O0.size) = longH (linesH f)) := Lib.hid (by rw [long_none f (by omega) hb]; exact decide_eq_false (by omega))
    have HOs : Hid (O0.size ≤ 10000000) := Lib.hid (by omega)
    clear hh bA hX hY hXs hYs hYd hO0d hO0s hb
    go_enter Tryd.func25, Tryd.ntmps25
    go_wp2
    go_ret2
    exact ⟨O0.size, by rw [Hr.out]; rfl, Hl.out, HOs.out, BA.out⟩
  · have he : Y.toList.isEmpty = false := by
      rw [Lib.toList_data, hYd]
      cases h : f.2 with
      | nil => exact absurd h hb
      | cons _ _ => rfl
    obtain ⟨nm, hnm⟩ : ∃ n, f.1.length + 1 = n := ⟨_, rfl⟩
    have Hst := Lib.hid (fold_start f.2 (f.1 ++ [58]) nm O0 hO0d (by omega) (by omega))
    have Hend : Hid (∀ fr O k M, FoldSt f.2 (f.1 ++ [58]) nm fr (Y.size + 1) O k M → textQ (endH (linesH f)) = O ++ ⟨#[13, 10]⟩ ∧ decide (998 < M) = longH (linesH f)) := Lib.hid fun fr O k M h => by
      rw [hYs, ← hnm] at h
      obtain ⟨e1, e2⟩ := fold_end (by omega) hb h
      refine ⟨?_, e2⟩
      rw [← e1]
      refine ByteArray.ext ?_
      rw [ByteArray.data_append]
      exact Array.toList_inj.1 (by rw [Array.toList_append]; rfl)
    have Hbd : Hid (∀ fr i O k M, FoldSt f.2 (f.1 ++ [58]) nm fr i O k M → k ≤ O.size ∧ M ≤ O.size ∧ O.size ≤ 5000000 ∧ fr ≤ Y.size + 1 ∧ fr ≤ i) := Lib.hid fun fr i O k M h => by
      obtain ⟨g1, g2, g3, g4, g5, _⟩ := h
      rw [List.length_append] at g3
      simp at g3
      exact ⟨g1, g2, by omega, by omega, g5⟩
    have Hskip : Hid (∀ fr i O k M, FoldSt f.2 (f.1 ++ [58]) nm fr i O k M → ∀ (hi : i < Y.size), Y[i] ≠ 32 → FoldSt f.2 (f.1 ++ [58]) nm fr (i + 1) O k M) := Lib.hid fun fr i O k M h hi hc => by
      refine fold_skip h (by omega) fun e => hc ?_
      have h1 := Lib.data_getElem? Y i hi
      rw [hYd, List.getElem?_eq_getElem (by omega)] at h1
      rw [← Option.some.inj h1, e]
    have Hnext : Hid (∀ fr i O k M, FoldSt f.2 (f.1 ++ [58]) nm fr i O k M → i ≤ Y.size → (∀ h : i < Y.size, Y[i] = 32) → ∀ (n' M' : Nat) (O' : ByteArray), M' = max M n' →
        (((0 < fr ∧ 0 < (Y.extract fr i).size ∧ 78 < k + 1 + (Y.extract fr i).size) ∧ n' = 1 + (Y.extract fr i).size ∧ O' = O ++ ⟨#[13, 10]⟩ ++ ⟨#[32]⟩ ++ Y.extract fr i) ∨ (¬ (0 < fr ∧ 0 < (Y.extract fr i).size ∧ 78 < k + 1 + (Y.extract fr i).size) ∧ n' = k + 1 + (Y.extract fr i).size ∧ O' = O ++ ⟨#[32]⟩ ++ Y.extract fr i)) →
        FoldSt f.2 (f.1 ++ [58]) nm (i + 1) (i + 1) O' n' M') := Lib.hid fun fr i O k M h hi hc n' M' O' hM hcase => by
      refine fold_next h (by omega) (fun h2 => ?_) (Y.extract fr i) (by rw [cut_text, hYd]; rfl) n' M' O' hM ?_
      · have h1 := Lib.data_getElem? Y i (by omega)
        rw [hYd, List.getElem?_eq_getElem h2] at h1
        rw [Option.some.inj h1]
        exact hc (by omega)
      · rcases hcase with ⟨a1, a2, rfl⟩ | ⟨a1, a2, rfl⟩
        · exact .inl ⟨a1, a2, by simp only [ByteArray.data_append, Array.toList_append]⟩
        · exact .inr ⟨a1, a2, by simp only [ByteArray.data_append, Array.toList_append]⟩
    have hYm : Y.size ≤ 1000000 := by omega
    have hO0n : O0.size = nm := by omega
    clear hh bA hX hY hXs hYs hYd hO0d hO0s hb hnm HYd hs hn
    go_enter Tryd.func25, Tryd.ntmps25
    go_wp2
    clear hwA hO0 he hcat0 hcat1
    go_loop [4, 5, 6, 7, 8, 9] (fun ov nv mv fv iv _ => ∃ (O : ByteArray) (k M fr i : Nat), ov = .string O ∧ nv = .int .i64 k ∧ mv = .int .i64 M ∧ fv = .int .i64 fr ∧ iv = .int .i64 i ∧ i ≤ Y.size + 1 ∧ Hid (FoldSt f.2 (f.1 ++ [58]) nm fr i O k M)) (fun _ _ _ _ iv _ => Y.size + 1 - (intOf iv).toNat)
    case atStart => exact ⟨O0, nm, nm, 0, 0, rfl, rfl, rfl, rfl, rfl, by omega, Hst⟩
    case round =>
      obtain ⟨O, k, M, fr, i, rfl, rfl, rfl, rfl, rfl, hi, hst⟩ := hrel
      obtain ⟨g1, g2, g3, g4, g5⟩ := Hbd.out _ _ _ _ _ hst.out
      have hwr : IntKind.i64.wrap ((i : Int) + 1) = (i : Int) + 1 := by rw [IntWalk.i64_in _ (by omega)]
      by_cases hend : i = Y.size + 1
      · subst hend
        obtain ⟨e1, e2⟩ := Hend.out _ _ _ _ hst.out
        have E1 := Lib.hid e1
        have E2 := Lib.hid e2
        have hcat : ¬ 9223372036854775807 < O.size + 2 := by omega
        have hnle : ¬ (((Y.size + 1 : Nat) : Int) ≤ (Y.size : Int)) := by omega
        clear e1 e2 hst
        go_wp2
        go_ret2
        exact ⟨M, by rw [E1.out]; rfl, E2.out, by omega, BA.out⟩
      · have hle : i ≤ Y.size := by omega
        by_cases hskip : ∃ h : i < Y.size, Y[i] ≠ 32
        · obtain ⟨hlt, hne⟩ := hskip
          have Hs := Lib.hid (Hskip.out _ _ _ _ _ hst.out hlt hne)
          have q : ((Y[i].toNat : Int) != 32) = true := by
            rw [bne_iff_ne]
            intro e
            apply hne
            rw [← UInt8.toNat_inj]
            show Y[i].toNat = 32
            omega
          clear hst hne
          go_wp2
          go_round
          case rel => exact ⟨O, k, M, fr, i + 1, rfl, rfl, rfl, rfl, by go_num, by omega, Hs⟩
          case measure => simp [intOf]; omega
        · have hall : ∀ h : i < Y.size, Y[i] = 32 := fun h => Classical.byContradiction fun h2 => hskip ⟨h, h2⟩
          have hnx := Hnext.out _ _ _ _ _ hst.out hle hall
          obtain ⟨W, hW⟩ : ∃ W, Y.extract fr i = W := ⟨_, rfl⟩
          have hWs : W.size ≤ 1000000 := by rw [← hW, ByteArray.size_extract]; omega
          rw [hW] at hnx
          have Hnx := Lib.hid hnx
          have s1 : (0 : Int) ≤ (fr : Int) := by omega
          have s2 : (fr : Int) ≤ (i : Int) := by omega
          have s3 : (i : Int) ≤ (Y.size : Int) := by omega
          have k1 : IntKind.i64.wrap ((k : Int) + 1) = (k : Int) + 1 := by rw [IntWalk.i64_in _ (by omega)]
          have k2 : IntKind.i64.wrap ((k : Int) + 1 + (W.size : Int)) = (k : Int) + 1 + (W.size : Int) := by rw [IntWalk.i64_in _ (by omega)]
          have k3 : IntKind.i64.wrap (1 + (W.size : Int)) = 1 + (W.size : Int) := by rw [IntWalk.i64_in _ (by omega)]
          have z1 : ¬ 9223372036854775807 < O.size + 1 := by omega
          have z2 : ¬ 9223372036854775807 < O.size + 1 + W.size := by omega
          have z3 : ¬ 9223372036854775807 < O.size + 2 := by omega
          have z4 : ¬ 9223372036854775807 < O.size + 2 + 1 := by omega
          have z5 : ¬ 9223372036854775807 < O.size + 2 + 1 + W.size := by omega
          clear hst hskip hnx
          have hq : ((i : Int) < (Y.size : Int) ∧ ∃ h : i < Y.size, ((Y[i].toNat : Int) != 32) = false) ∨ ¬ ((i : Int) < (Y.size : Int)) := by
            by_cases h : i < Y.size
            · refine .inl ⟨by omega, h, ?_⟩
              rw [hall h]
              rfl
            · exact .inr (by omega)
          have Hall := Lib.hid hall
          clear hall
          rcases hq with ⟨q1, hlt, q2⟩ | q1
          all_goals
            by_cases hfr : 0 < fr
            · by_cases hw0 : 0 < W.size
              · by_cases h78 : 78 < k + 1 + W.size
                · obtain ⟨O', hO'⟩ : ∃ O', O ++ ⟨#[13, 10]⟩ ++ ⟨#[32]⟩ ++ W = O' := ⟨_, rfl⟩
                  have i78 : (78 : Int) < (k : Int) + 1 + (W.size : Int) := by omega
                  by_cases hM : M < 1 + W.size
                  · have Hs := Lib.hid (Hnx.out (1 + W.size) (1 + W.size) O' (by omega) (.inl ⟨⟨hfr, hw0, h78⟩, rfl, hO'.symm⟩))
                    have iM : (M : Int) < 1 + (W.size : Int) := by omega
                    clear h78 hM Hnx
                    go_wp2
                    go_round
                    case rel => exact ⟨O', 1 + W.size, 1 + W.size, i + 1, i + 1, rfl, by go_num, by go_num, by go_num, by go_num, by omega, Hs⟩
                    case measure => simp [intOf]; omega
                  · have Hs := Lib.hid (Hnx.out (1 + W.size) M O' (by omega) (.inl ⟨⟨hfr, hw0, h78⟩, rfl, hO'.symm⟩))
                    have iM : ¬ ((M : Int) < 1 + (W.size : Int)) := by omega
                    clear h78 hM Hnx
                    go_wp2
                    go_round
                    case rel => exact ⟨O', 1 + W.size, M, i + 1, i + 1, rfl, by go_num, by go_num, by go_num, by go_num, by omega, Hs⟩
                    case measure => simp [intOf]; omega
                · obtain ⟨O', hO'⟩ : ∃ O', O ++ ⟨#[32]⟩ ++ W = O' := ⟨_, rfl⟩
                  have i78 : ¬ ((78 : Int) < (k : Int) + 1 + (W.size : Int)) := by omega
                  by_cases hM : M < k + 1 + W.size
                  · have Hs := Lib.hid (Hnx.out (k + 1 + W.size) (k + 1 + W.size) O' (by omega) (.inr ⟨by omega, rfl, hO'.symm⟩))
                    have iM : (M : Int) < (k : Int) + 1 + (W.size : Int) := by omega
                    clear h78 hM Hnx
                    go_wp2
                    go_round
                    case rel => exact ⟨O', k + 1 + W.size, k + 1 + W.size, i + 1, i + 1, rfl, by go_num, by go_num, by go_num, by go_num, by omega, Hs⟩
                    case measure => simp [intOf]; omega
                  · have Hs := Lib.hid (Hnx.out (k + 1 + W.size) M O' (by omega) (.inr ⟨by omega, rfl, hO'.symm⟩))
                    have iM : ¬ ((M : Int) < (k : Int) + 1 + (W.size : Int)) := by omega
                    clear h78 hM Hnx
                    go_wp2
                    go_round
                    case rel => exact ⟨O', k + 1 + W.size, M, i + 1, i + 1, rfl, by go_num, by go_num, by go_num, by go_num, by omega, Hs⟩
                    case measure => simp [intOf]; omega
              · obtain ⟨O', hO'⟩ : ∃ O', O ++ ⟨#[32]⟩ ++ W = O' := ⟨_, rfl⟩
                by_cases hM : M < k + 1 + W.size
                · have Hs := Lib.hid (Hnx.out (k + 1 + W.size) (k + 1 + W.size) O' (by omega) (.inr ⟨by omega, rfl, hO'.symm⟩))
                  have iM : (M : Int) < (k : Int) + 1 + (W.size : Int) := by omega
                  clear hM Hnx
                  go_wp2
                  go_round
                  case rel => exact ⟨O', k + 1 + W.size, k + 1 + W.size, i + 1, i + 1, rfl, by go_num, by go_num, by go_num, by go_num, by omega, Hs⟩
                  case measure => simp [intOf]; omega
                · have Hs := Lib.hid (Hnx.out (k + 1 + W.size) M O' (by omega) (.inr ⟨by omega, rfl, hO'.symm⟩))
                  have iM : ¬ ((M : Int) < (k : Int) + 1 + (W.size : Int)) := by omega
                  clear hM Hnx
                  go_wp2
                  go_round
                  case rel => exact ⟨O', k + 1 + W.size, M, i + 1, i + 1, rfl, by go_num, by go_num, by go_num, by go_num, by omega, Hs⟩
                  case measure => simp [intOf]; omega
            · obtain ⟨O', hO'⟩ : ∃ O', O ++ ⟨#[32]⟩ ++ W = O' := ⟨_, rfl⟩
              by_cases hM : M < k + 1 + W.size
              · have Hs := Lib.hid (Hnx.out (k + 1 + W.size) (k + 1 + W.size) O' (by omega) (.inr ⟨by omega, rfl, hO'.symm⟩))
                have iM : (M : Int) < (k : Int) + 1 + (W.size : Int) := by omega
                clear hM Hnx
                go_wp2
                go_round
                case rel => exact ⟨O', k + 1 + W.size, k + 1 + W.size, i + 1, i + 1, rfl, by go_num, by go_num, by go_num, by go_num, by omega, Hs⟩
                case measure => simp [intOf]; omega
              · have Hs := Lib.hid (Hnx.out (k + 1 + W.size) M O' (by omega) (.inr ⟨by omega, rfl, hO'.symm⟩))
                have iM : ¬ ((M : Int) < (k : Int) + 1 + (W.size : Int)) := by omega
                clear hM Hnx
                go_wp2
                go_round
                case rel => exact ⟨O', k + 1 + W.size, M, i + 1, i + 1, rfl, by go_num, by go_num, by go_num, by go_num, by omega, Hs⟩
                case measure => simp [intOf]; omega
end Go.Proofs.YtneihcdeflfahaaDoor
