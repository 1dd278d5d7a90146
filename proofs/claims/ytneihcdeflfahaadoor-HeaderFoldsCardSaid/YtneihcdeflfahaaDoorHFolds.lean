/-
  HeaderFolds: the walk.
-/
import Derived.Test.YtneihcdeflfahaaDoorH10D
import Derived.Test.YtneihcdeflfahaaDoorAwake10
import Derived.Test.YtneihcdeflfahaaDoorHdX
import Derived.BigQuiet
namespace Go.Proofs.YtneihcdeflfahaaDoor
open Go.RowKit

theorem folds_back {f : FieldH} (h : RightH f) (hlen : f.2.length ≤ 300) (i : Nat) (hi : i < f.2.length) (hb : blankH f.2[i] = true) :
    parseH (f.1 ++ [58] ++ f.2.take i ++ [13, 10] ++ f.2.drop i ++ [13, 10, 13, 10]) = (([f], []), 0) := by
  obtain ⟨L1, hL1⟩ : ∃ L, f.1 ++ 58 :: f.2.take i = L := ⟨_, rfl⟩
  obtain ⟨L2, hL2⟩ : ∃ L, f.2.drop i = L := ⟨_, rfl⟩
  have e : f.1 ++ [58] ++ f.2.take i ++ [13, 10] ++ f.2.drop i ++ [13, 10, 13, 10] = endH [L1, L2] ++ 13 :: 10 :: [] := by rw [← hL1, ← hL2]; simp [endH]
  have e2 : L2 = f.2[i] :: f.2.drop (i + 1) := by rw [← hL2]; exact List.drop_eq_getElem_cons hi
  have hgo : goesH L2 = true := by rw [e2]; exact hb
  have hg1 : goesH L1 = false := by rw [← hL1]; exact name_goes h _
  have hlines : ∀ l ∈ [L1, L2], l ≠ [] ∧ ∀ c ∈ l, c ≠ 13 := by
    intro l hl
    simp only [List.mem_cons, List.not_mem_nil, or_false] at hl
    rcases hl with rfl | rfl
    · rw [← hL1]
      refine ⟨by simp, fun c hc => ?_⟩
      rcases List.mem_append.1 hc with h1 | h1
      · rintro rfl
        exact absurd (h.name _ h1).1 (by decide)
      · rcases List.mem_cons.1 h1 with rfl | h1
        · decide
        · exact (h.body c (List.mem_of_mem_take h1)).2.2
    · refine ⟨fun h0 => (by rw [h0] at e2; cases e2), fun c hc => ?_⟩
      rw [← hL2] at hc
      exact (h.body c (List.mem_of_mem_drop hc)).2.2
  have hlen2 : [L1, L2].length < (endH [L1, L2] ++ 13 :: 10 :: []).length + 1 := by
    have := end_len [L1, L2]
    rw [List.length_append]
    simp at this ⊢
  have ht := top_lines [L1, L2] [] _ hlines hlen2
  have hlong : longH [L1, L2] = false := by
    unfold longH
    rw [List.any_eq_false]
    intro l hl
    simp only [List.mem_cons, List.not_mem_nil, or_false] at hl
    have hn := h.n64
    rcases hl with rfl | rfl
    · rw [← hL1]
      simp
      omega
    · rw [← hL2]
      simp
      omega
  have hj : joinH [L1, L2] = [f.1 ++ 58 :: f.2] := by
    have := join_conts [L2] L1 [] (fun y hy => by rw [List.mem_singleton.1 hy]; exact hgo) rfl
    rw [List.append_nil] at this
    rw [this, ← hL1, ← hL2]
    show [(f.1 ++ 58 :: f.2.take i) ++ [f.2.drop i].flatten] = _
    simp
  have hf : fieldH (f.1 ++ 58 :: f.2) = some f := by
    unfold fieldH
    obtain ⟨a, b⟩ := take_name f.1 f.2 (fun c hc => (h.name c hc).2.2)
    rw [if_pos (by simp), a, b]
    show some (f.1, trimH f.2) = _
    rw [trim_body h.first h.last]
  have hfs : fieldsH [f.1 ++ 58 :: f.2] = some [f] := by
    rw [fieldsH, hf]
    show (if rightB f = true then _ else _) = _
    rw [if_pos ((right_iff f).2 h)]
    rfl
  rw [e]
  unfold parseH
  rw [ht]
  show (if longH _ = true then _ else _) = _
  rw [if_neg (by rw [hlong]; decide), if_neg (by rw [show goesH (List.headD [L1, L2] []) = false from hg1]; decide), hj, hfs]
  rfl

theorem bne_eqF {c : UInt8} {k : Nat} (hk : k < 256) (h : c ≠ UInt8.ofNat k) : ((c.toNat : Int) != (k : Int)) = true := by
  rw [bne_iff_ne]
  intro e
  apply h
  rw [← UInt8.toNat_inj, UInt8.toNat_ofNat_of_lt' (by show k < 256; exact hk)]
  omega

set_option maxRecDepth 100000 in
set_option maxHeartbeats 8000000 in
theorem hfolds_walk (f : FieldH) (i : Int) (m : Int) (w : World) (hm : w.cell? ⟨0, 0, none⟩ = some (.int .i64 m)) (wf : f.1.length ≤ maxLen ∧ f.2.length ≤ maxLen) (wi : (Lit.int .i64 i).wf = true) :
    Calls Tryd.prog 8 #[fieldV f, .int .i64 i] w fun e w' => e = .returned (.bool true) ∧ Below w.heap.size w w' := by
  have hri : Hid (∀ W, Calls Tryd.prog 17 #[fieldV f] W fun e w' => e = .returned (.bool (rightB f)) ∧ Below W.heap.size W w') := Lib.hid fun W => hright_wide f W wf.2
  unfold fieldV at hri ⊢
  obtain ⟨MN, hMN⟩ : ∃ X, textQ f.1 = X := ⟨_, rfl⟩
  obtain ⟨MB, hMB⟩ : ∃ X, textQ f.2 = X := ⟨_, rfl⟩
  have hMNs : MN.size = f.1.length := by rw [← hMN]; rfl
  have hMBs : MB.size = f.2.length := by rw [← hMB]; rfl
  have HMN := Lib.hid hMN
  have HMB := Lib.hid hMB
  have HMNs := Lib.hid hMNs
  have HMBs := Lib.hid hMBs
  rw [hMN, hMB] at hri
  rw [hMN, hMB]
  rw [← hMNs, ← hMBs] at wf
  obtain ⟨wf1, wf2⟩ := wf
  obtain ⟨wA, hwA⟩ : ∃ W, w.alloc (.cells #[.string MN, .string MB] 38) = W := ⟨_, rfl⟩
  have bA : Below w.heap.size w wA := by rw [← hwA]; exact (Below.refl _ _).alloc (Nat.le_refl _) _
  have zA : wA.heap.size = w.heap.size + 1 := by rw [← hwA]; simp
  have hhA : wA.heap[w.heap.size]? = some (.cells #[.string MN, .string MB] 38 (0, 0)) := by rw [← hwA]; exact heap_alloc_new w _
  have hmA := bound_abide hm bA
  have haw := awake10_any m wA hmA
  have HM : Hid (∀ W, Below wA.heap.size wA W → W.cell? ⟨0, 0, none⟩ = some (.int .i64 m)) := Lib.hid fun W hW => bound_abide hmA hW
  have CELL : Hid (∀ W, Below wA.heap.size wA W → W.cell? ⟨w.heap.size, 0, none⟩ = some (.string MN) ∧ W.cell? ⟨w.heap.size, 1, none⟩ = some (.string MB) ∧ w.heap.size < W.heap.size) := Lib.hid fun W hW =>
    ⟨(hW.cell (p := ⟨w.heap.size, 0, none⟩) (by show w.heap.size < _; omega)).trans (Lib.cell_of_heap hhA 0), (hW.cell (p := ⟨w.heap.size, 1, none⟩) (by show w.heap.size < _; omega)).trans (Lib.cell_of_heap hhA 1), by have := hW.size; omega⟩
  have hfin : Hid (∀ W, Below wA.heap.size wA W → Below w.heap.size w W) := Lib.hid fun W hW => bA.trans (hW.mono bA.size)
  unfold maxLen at wf1 wf2
  clear hMN hMB hMNs hMBs hm bA hhA zA hmA
  go_enter Tryd.func8, Tryd.ntmps8
  go_wp2_with fail
  refine haw.mono ?_
  rintro e w1 ⟨rfl, hb1⟩
  clear haw hwA
  obtain ⟨c10, c11, _⟩ := CELL.out w1 hb1
  go_wp2_with fail
  refine (hri.out _).mono ?_
  rintro e w2 ⟨rfl, hw2⟩
  have hb2 := hb1.trans (hw2.mono hb1.size)
  clear hri hw2 hb1 c10 c11
  obtain ⟨c20, c21, hz2⟩ := CELL.out w2 hb2
  obtain ⟨R, hR⟩ : ∃ b, rightB f = b := ⟨_, rfl⟩
  rw [hR]
  have HR := Lib.hid hR
  clear hR
  cases R with
  | false =>
    go_wp2
    go_ret
    exact ⟨rfl, hfin.out _ hb2⟩
  | true =>
    by_cases h3 : 300 < MB.size
    · go_wp2
      go_ret
      exact ⟨rfl, hfin.out _ hb2⟩
    by_cases h1 : i < 1
    · go_wp2
      go_ret
      exact ⟨rfl, hfin.out _ hb2⟩
    by_cases h2 : (MB.size : Int) ≤ i
    · go_wp2
      go_ret
      exact ⟨rfl, hfin.out _ hb2⟩
    obtain ⟨k, rfl⟩ : ∃ k : Nat, i = (k : Int) := Int.eq_ofNat_of_zero_le (by omega)
    have hk : k < MB.size := by omega
    by_cases hbl : MB[k] ≠ 32 ∧ MB[k] ≠ 9
    · have q1 : ((MB[k].toNat : Int) != 32) = true := bne_eqF (k := 32) (by decide) hbl.1
      have q2 : ((MB[k].toNat : Int) != 9) = true := bne_eqF (k := 9) (by decide) hbl.2
      clear hbl
      go_wp2
      go_ret
      exact ⟨rfl, hfin.out _ hb2⟩
    · have hpl : Hid (parseH (f.1 ++ [58] ++ f.2.take k ++ [13, 10] ++ f.2.drop k ++ [13, 10, 13, 10]) = (([f], []), 0)) := Lib.hid (by
        have hr := (right_iff f).1 HR.out
        have hkl : k < f.2.length := by have := HMBs.out; omega
        have hc : MB[k] = f.2[k] := by
          have h1 := Lib.data_getElem? MB k hk
          have h2 : MB.data.toList = f.2 := by rw [← HMB.out]; rfl
          rw [h2, List.getElem?_eq_getElem hkl] at h1
          exact (Option.some.inj h1).symm
        refine folds_back hr (by have := HMBs.out; omega) k hkl ?_
        rw [← hc]
        unfold blankH
        rw [Bool.or_eq_true, beq_iff_eq, beq_iff_eq]
        by_cases h32 : MB[k] = 32
        · exact .inl h32
        · exact .inr (Classical.byContradiction fun h9 => hbl ⟨h32, h9⟩))
      obtain ⟨B1, hB1⟩ : ∃ B, MB.extract 0 k = B := ⟨_, rfl⟩
      obtain ⟨B2, hB2⟩ : ∃ B, MB.extract k MB.size = B := ⟨_, rfl⟩
      have hz1 : B1.size ≤ 300 := by rw [← hB1, ByteArray.size_extract]; omega
      have hz2' : B2.size ≤ 300 := by rw [← hB2, ByteArray.size_extract]; omega
      have hzn : MN.size ≤ 64 := by have := ((right_iff f).1 HR.out).n64; have := HMNs.out; omega
      obtain ⟨S, hS⟩ : ∃ S, MN ++ ⟨#[58]⟩ ++ B1 ++ ⟨#[13, 10]⟩ ++ B2 ++ ⟨#[13, 10, 13, 10]⟩ = S := ⟨_, rfl⟩
      have hSd : S.data.toList = f.1 ++ [58] ++ f.2.take k ++ [13, 10] ++ f.2.drop k ++ [13, 10, 13, 10] := by
        have e1 : MN.data.toList = f.1 := by rw [← HMN.out]; rfl
        have e2 : MB.data.toList = f.2 := by rw [← HMB.out]; rfl
        have e3 : B1.data.toList = f.2.take k := by rw [← hB1, cut_text, e2]; simp [textQ]
        have e4 : B2.data.toList = f.2.drop k := by
          rw [← hB2, cut_text, e2]
          show (f.2.drop k).take (MB.size - k) = _
          exact List.take_of_length_le (by rw [List.length_drop]; have := HMBs.out; omega)
        rw [← hS]
        simp only [ByteArray.data_append, Array.toList_append, e1, e3, e4]
      have hSs : S.size ≤ 1000 := by
        have e : S.size = S.data.toList.length := rfl
        have := HMNs.out
        have := HMBs.out
        rw [e, hSd]
        simp
        omega
      have hps : Hid (∀ W, Below wA.heap.size wA W → Calls Tryd.prog 13 #[.string S] W fun e w' => ∃ g cap, e = .returned (.tuple #[.slice (some ⟨g, 0, none⟩) 1 cap, .string ⟨#[]⟩, .int .i64 0]) ∧ w'.cell? ⟨g, 0, none⟩ = some (.string MN) ∧ w'.cell? ⟨g, 1, none⟩ = some (.string MB) ∧ Below wA.heap.size wA w') := Lib.hid fun W hW => by
        refine (hparse_any S m W (by omega) (HM.out W hW)).mono ?_
        rintro e w' ⟨v, rfl, hown, hb⟩
        rw [hSd, hpl.out] at hown ⊢
        have hat := FieldsOwn.at hown
        obtain ⟨ao, cap, rfl, h1, h2, h3⟩ := hat
        rcases hown.2 with ⟨e, _⟩ | ⟨g, cap', cur, e, hg1, hg2, hg3⟩
        · cases e
        · cases e
          obtain ⟨g', off', e', q1, q2, q3⟩ := h3 0 (by simp)
          cases e'
          exact ⟨g, cap, rfl, by rw [← HMN.out]; exact q2, by rw [← HMB.out]; exact q3, hW.trans (hb.mono hW.size)⟩
      have g1 : ¬ 9223372036854775807 < MN.size + 1 := by omega
      have g2 : ¬ 9223372036854775807 < MN.size + 1 + B1.size := by omega
      have g3 : ¬ 9223372036854775807 < MN.size + 1 + B1.size + 2 := by omega
      have g4 : ¬ 9223372036854775807 < MN.size + 1 + B1.size + 2 + B2.size := by omega
      have g5 : ¬ 9223372036854775807 < MN.size + 1 + B1.size + 2 + B2.size + 4 := by omega
      have l1 : (⟨#[58]⟩ : ByteArray).size = 1 := rfl
      have l2 : (⟨#[13, 10]⟩ : ByteArray).size = 2 := rfl
      have l4 : (⟨#[13, 10, 13, 10]⟩ : ByteArray).size = 4 := rfl
      have k1 : (0 : Int) ≤ (k : Int) := by omega
      have k2 : (k : Int) ≤ (MB.size : Int) := by omega
      clear hSd hpl hz1 hz2' hzn HR HMNs HMBs
      have hcase : (((MB[k].toNat : Int) != 32) = false) ∨ (((MB[k].toNat : Int) != 32) = true ∧ ((MB[k].toNat : Int) != 9) = false) := by
        by_cases h32 : MB[k] = 32
        · exact .inl (by rw [h32]; rfl)
        · refine .inr ⟨bne_eqF (k := 32) (by decide) h32, ?_⟩
          have h9 : MB[k] = 9 := Classical.byContradiction fun h9 => hbl ⟨h32, h9⟩
          rw [h9]
          rfl
      clear hbl
      rcases hcase with q32 | ⟨q32, q9⟩
      all_goals
        go_wp2_with fail
        go_quiet (fail)
        have hb3 := below_drewN hb2 nq
        generalize w2.drewN nq = w3 at hb3 ⊢
        clear c20 c21 hz2 hb2 hS hB1 hB2
        go_wp2_with fail
        refine (hps.out _ hb3).mono ?_
        rintro e w4 ⟨g, cap, rfl, p0, p1, hb4⟩
        obtain ⟨c40, c41, _⟩ := CELL.out w4 hb4
        go_wp2_with fail
        go_quiet (fail)
        have hb5 := below_drewN hb4 nq
        go_wp2
        go_ret
        exact ⟨rfl, hfin.out _ hb5⟩
end Go.Proofs.YtneihcdeflfahaaDoor
