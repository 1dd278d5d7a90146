/-
  LatticeTexts returns true, for any lists of strings and any two labels, in any memory that holds the length bound of the string search: the walk.
-/
import Derived.Test.YtmkkdkgmiplnfaaDoorBackM
import Derived.Test.YtmkkdkgmiplnfaaDoorIn
import Derived.Test.YtmkkdkgmiplnfaaDoorFew
import Derived.Test.YtmkkdkgmiplnfaaDoorAwake
import Derived.Test.YtmkkdkgmiplnfaaDoorSteps
namespace Go.Proofs.YtmkkdkgmiplnfaaDoor
open Go.RowKit

theorem text_head {ls cs : List ByteArray} (L : Nat) (k : Int) (t nm : ByteArray) (ht : t = ⟨(textT ls cs L k).toArray⟩) (hn : nm = ls.getD L ByteArray.empty) : nm.size ≤ t.size ∧ t.extract 0 nm.size = nm := by
  have e : t.data.toList = nm.data.toList ++ tailT cs k cs.length := by rw [ht, hn]; unfold textT; simp
  have hs : t.size = nm.size + (tailT cs k cs.length).length := by
    have h1 : t.data.toList.length = t.size := rfl
    have h2 : nm.data.toList.length = nm.size := rfl
    rw [← h1, e, List.length_append, h2]
  refine ⟨by omega, ?_⟩
  apply ByteArray.ext
  apply Array.ext'
  rw [ByteArray.data_extract, Array.toList_extract, e]
  have h2 : nm.data.toList.length = nm.size := rfl
  rw [← h2]
  simp [List.extract]
theorem bytes_list (t : ByteArray) : t.toList = t.data.toList := by
  cases t with
  | mk d => cases d with
    | mk l => simp
theorem bytes_ne {a b : ByteArray} (h : a ≠ b) : (a.toList == b.toList) = false := by
  simp only [bytes_list, beq_eq_false_iff_ne, ne_eq]
  exact fun e => h (ByteArray.ext (Array.ext' e))
theorem tail_zero (cs : List ByteArray) : ∀ i, tailT cs 0 i = []
  | 0 => rfl
  | i + 1 => by
    have hb : bitB 0 i = false := by
      have := bit_nat 0 i (by omega)
      simpa using this
    rw [tailT_no hb, tail_zero cs i]

set_option maxRecDepth 100000 in
set_option maxHeartbeats 4000000 in
theorem texts_walk (B n c n' c' : Nat) (A A' : Option Addr) (ss ss' : List ByteArray) (la ca lb cb m : Int) (w : World) (hB : B ≤ w.heap.size) (h1 : Strs w B A n c ss) (h2 : Strs w B A' n' c' ss') (hsz : ∀ s ∈ ss ++ ss', s.size ≤ maxLen)
    (hm : w.cell? ⟨0, 0, none⟩ = some (.int .i64 m)) (hc1 : 0 ≤ ca ∧ ca < 18446744073709551616) (hc2 : 0 ≤ cb ∧ cb < 18446744073709551616) :
    Calls Tryd.prog 10 #[.agg #[.slice A n c, .slice A' n' c'], .agg #[.int .i64 la, .int .u64 ca], .agg #[.int .i64 lb, .int .u64 cb]] w fun e w' => e = .returned (.bool true) ∧ Below w.heap.size w w' := by
  have hnot : ∀ (x : Bool) (w : World), (Op.unary .not (.bool x)).run Tryd.prog w = .ok (.bool (!x)) w := fun _ _ => rfl
  have h0 := lt_of_cell hm
  simp at h0
  have hbw : Below w.heap.size w (((w.alloc (.cells #[.slice A n c, .slice A' n' c'] 24)).alloc (.cells #[.int .i64 la, .int .u64 ca] 27)).alloc (.cells #[.int .i64 lb, .int .u64 cb] 27)) := (((Below.refl _ _).alloc (Nat.le_refl _) _).alloc (by simp) _).alloc (by simp; omega) _
  have hm1 := (hbw.cell (p := ⟨0, 0, none⟩) (by simpa using h0)).trans hm
  have haw := awake_any m _ hm1
  have hl1 := h1.len
  have hl2 := h2.len
  go_enter Tryd.func10, Tryd.ntmps10
  go_wp2_with fail
  refine haw.mono ?_
  rintro e w1 ⟨rfl, hb1⟩
  have a0 : w1.cell? ⟨w.heap.size, 0, none⟩ = some (.slice A n c) := by rw [hb1.cell (by simp; try omega)]; go_simp
  have a1 : w1.cell? ⟨w.heap.size, 1, none⟩ = some (.slice A' n' c') := by rw [hb1.cell (by simp; try omega)]; go_simp
  have b0 : w1.cell? ⟨w.heap.size + 1, 0, none⟩ = some (.int .i64 la) := by rw [hb1.cell (by simp; try omega)]; go_simp
  have b1 : w1.cell? ⟨w.heap.size + 1, 1, none⟩ = some (.int .u64 ca) := by rw [hb1.cell (by simp; try omega)]; go_simp
  have c0 : w1.cell? ⟨w.heap.size + 1 + 1, 0, none⟩ = some (.int .i64 lb) := by rw [hb1.cell (by simp)]; go_simp
  have c1 : w1.cell? ⟨w.heap.size + 1 + 1, 1, none⟩ = some (.int .u64 cb) := by rw [hb1.cell (by simp)]; go_simp
  have hz1 : w.heap.size + 3 ≤ w1.heap.size := by have := hb1.size; simp at this; omega
  have hbw1 : Below w.heap.size w w1 := hbw.trans (hb1.mono (by simp; omega))
  have s1 := h1.below (hbw1.mono hB)
  have s2 := h2.below (hbw1.mono hB)
  have hK : Hid (∀ W, Below w1.heap.size w1 W → W.cell? ⟨w.heap.size, 0, none⟩ = some (.slice A n c) ∧ W.cell? ⟨w.heap.size, 1, none⟩ = some (.slice A' n' c') ∧ W.cell? ⟨w.heap.size + 1, 0, none⟩ = some (.int .i64 la) ∧ W.cell? ⟨w.heap.size + 1, 1, none⟩ = some (.int .u64 ca) ∧ W.cell? ⟨w.heap.size + 1 + 1, 0, none⟩ = some (.int .i64 lb) ∧ W.cell? ⟨w.heap.size + 1 + 1, 1, none⟩ = some (.int .u64 cb) ∧ Strs W B A n c ss ∧ Strs W B A' n' c' ss' ∧ Below w.heap.size w W) := Lib.hid fun W hb =>
    ⟨(hb.cell (p := ⟨w.heap.size, 0, none⟩) (by simp; omega)).trans a0, (hb.cell (p := ⟨w.heap.size, 1, none⟩) (by simp; omega)).trans a1, (hb.cell (p := ⟨w.heap.size + 1, 0, none⟩) (by simp; omega)).trans b0, (hb.cell (p := ⟨w.heap.size + 1, 1, none⟩) (by simp; omega)).trans b1,
      (hb.cell (p := ⟨w.heap.size + 1 + 1, 0, none⟩) (by simp; omega)).trans c0, (hb.cell (p := ⟨w.heap.size + 1 + 1, 1, none⟩) (by simp; omega)).trans c1, s1.below (hb.mono (by omega)), s2.below (hb.mono (by omega)), hbw1.trans (hb.mono (by omega))⟩
  clear hb1 hbw hm hm1 haw h1 h2 hbw1
  go_wp2_with fail
  refine (few_any B n c n' c' A A' ss ss' w1 (by omega) s1 s2 hsz).mono ?_
  rintro e w2 ⟨⟨b, rfl⟩, hb2⟩
  clear a0 a1 b0 b1 c0 c1 s1 s2
  obtain ⟨a0, a1, b0, b1, c0, c1, s1, s2, hw2⟩ := hK.out _ hb2
  have hz2 := hb2.size
  cases b
  · go_wp2
    go_ret
    exact ⟨rfl, hw2⟩
  go_wp2_with fail
  refine (in_any B n c n' c' A A' ss ss' la ca w2 (by omega) s1 s2 hsz).mono ?_
  rintro e w3 ⟨rfl, hb3⟩
  have hb3' := hb2.trans (hb3.mono hz2)
  have hz3 := hb3'.size
  clear a0 a1 b0 b1 c0 c1 s1 s2
  obtain ⟨a0, a1, b0, b1, c0, c1, s1, s2, hw3⟩ := hK.out _ hb3'
  cases hp1 : (rightB ss ss' && hasB n n' la ca)
  · go_wp2
    go_ret
    exact ⟨rfl, hw3⟩
  go_wp2_with fail
  refine (in_any B n c n' c' A A' ss ss' lb cb w3 (by omega) s1 s2 hsz).mono ?_
  rintro e w4 ⟨rfl, hb4⟩
  have hb4' := hb3'.trans (hb4.mono hz3)
  have hz4 := hb4'.size
  clear a0 a1 b0 b1 c0 c1 s1 s2
  obtain ⟨a0, a1, b0, b1, c0, c1, s1, s2, hw4⟩ := hK.out _ hb4'
  cases hp2 : (rightB ss ss' && hasB n n' lb cb)
  · go_wp2
    go_ret
    exact ⟨rfl, hw4⟩
  rw [Bool.and_eq_true] at hp1 hp2
  obtain ⟨hr, hh1⟩ := hp1
  obtain ⟨_, hh2⟩ := hp2
  have hpa : printB ss ss' la ca = (textT ss ss' la ca, 0) := by unfold printB; rw [hr, hl1, hl2, hh1]; rfl
  have hpb : printB ss ss' lb cb = (textT ss ss' lb cb, 0) := by unfold printB; rw [hr, hl1, hl2, hh2]; rfl
  have hpt1 := parse_text (l := la) (k := ca) hr hc1.1 hc1.2 (by rw [hl1, hl2]; exact hh1)
  have hpt2 := parse_text (l := lb) (k := cb) hr hc2.1 hc2.2 (by rw [hl1, hl2]; exact hh2)
  have hpt0 := fun (hz : hasB ss.length ss'.length la 0 = true) => parse_text (l := la) (k := 0) hr (by omega) (by omega) hz
  have hla : 0 ≤ la ∧ la < n := by unfold hasB at hh1; simp only [Bool.and_eq_true, decide_eq_true_eq] at hh1; exact hh1.1
  have hlb : 0 ≤ lb ∧ lb < n := by unfold hasB at hh2; simp only [Bool.and_eq_true, decide_eq_true_eq] at hh2; exact hh2.1
  obtain ⟨L, rfl⟩ := Int.eq_ofNat_of_zero_le hla.1
  have hne : ¬ ((L : Int) = lb ∧ ca = cb) → textT ss ss' L ca ≠ textT ss ss' lb cb := fun h e => by
    rw [e, hpt2] at hpt1
    simp only [Option.some.injEq, Prod.mk.injEq] at hpt1
    exact h ⟨by omega, hpt1.2.symm⟩
  have htx0 : textT ss ss' L 0 = (ss.getD L ByteArray.empty).data.toList := by unfold textT; rw [tail_zero]; simp
  have hz0 : ca = 0 → (⟨(textT ss ss' L ca).toArray⟩ : ByteArray) = ss.getD L ByteArray.empty := fun h => by
    rw [h, htx0]
  have hnz : ¬ ca = 0 → (⟨(textT ss ss' L ca).toArray⟩ : ByteArray) ≠ ss.getD L ByteArray.empty := fun h e => by
    have e2 : textT ss ss' L ca = textT ss ss' L 0 := by rw [htx0, ← e]
    rw [e2, hpt0 (by unfold hasB; simp [hl1]; omega)] at hpt1
    simp only [Option.some.injEq, Prod.mk.injEq] at hpt1
    exact h hpt1.2.symm
  have hne2 : ¬ ((L : Int) = lb ∧ ca = cb) → (⟨(textT ss ss' L ca).toArray⟩ : ByteArray) ≠ ⟨(textT ss ss' lb cb).toArray⟩ := fun h e => hne h (by simpa using e)
  have heq2 : ((L : Int) = lb ∧ ca = cb) → (⟨(textT ss ss' L ca).toArray⟩ : ByteArray) = ⟨(textT ss ss' lb cb).toArray⟩ := fun h => by rw [h.1, h.2]
  clear hne htx0
  have Hpa := Lib.hid hpa
  have Hpb := Lib.hid hpb
  have Hsz := Lib.hid hsz
  clear hpa hpb hsz hpt1 hpt2 hpt0 hr hh1 hh2
  go_wp2_with fail
  refine (print_any B n c n' c' A A' ss ss' L ca w4 (by omega) s1 s2 Hsz.out).mono ?_
  rintro e w5 ⟨rfl, hb5⟩
  rw [Hpa.out]
  have hb5' := hb4'.trans (hb5.mono hz4)
  have hz5 := hb5'.size
  clear a0 a1 b0 b1 c0 c1 s1 s2
  obtain ⟨a0, a1, b0, b1, c0, c1, s1, s2, hw5⟩ := hK.out _ hb5'
  go_wp2_with fail
  refine (print_any B n c n' c' A A' ss ss' lb cb w5 (by omega) s1 s2 Hsz.out).mono ?_
  rintro e w6 ⟨rfl, hb6⟩
  rw [Hpb.out]
  have hb6' := hb5'.trans (hb6.mono hz5)
  clear a0 a1 b0 b1 c0 c1 s1 s2
  obtain ⟨a0, a1, b0, b1, c0, c1, s1, s2, hw6⟩ := hK.out _ hb6'
  obtain ⟨b, off, rfl, hb, hc⟩ := s1.at_ (k := L) (by omega)
  have hcx := hc L (by omega)
  obtain ⟨hge, hex⟩ := text_head (ls := ss) (cs := ss') L ca _ _ rfl rfl
  clear hK hw2 hw3 hw4 hw5 hb2 hb3 hb4 hb5 hb6 hb3' hb4' hb5' hb6' Hpa Hpb Hsz s1 s2 hc
  generalize ss.getD L ByteArray.empty = nm at hcx hge hex hz0 hnz
  generalize (⟨(textT ss ss' lb cb).toArray⟩ : ByteArray) = t2 at hne2 heq2 ⊢
  generalize (⟨(textT ss ss' L ca).toArray⟩ : ByteArray) = t1 at hge hex hz0 hnz hne2 heq2 ⊢
  obtain ⟨X, hX, hq⟩ : ∃ X : Bool, (t1.toList == t2.toList) = X ∧ ∀ W, (Op.equalIn 10000 27 (.agg #[.int .i64 L, .int .u64 ca]) (.agg #[.int .i64 lb, .int .u64 cb])).run Tryd.prog W = .ok X W := by
    by_cases h : (L : Int) = lb ∧ ca = cb
    · exact ⟨true, by rw [heq2 h]; simp, fun W => by rw [eql_label, decide_eq_true h]⟩
    · exact ⟨false, bytes_ne (hne2 h), fun W => by rw [eql_label, decide_eq_false h]⟩
  obtain ⟨Y, hY, hY2⟩ : ∃ Y : Bool, (t1.toList == nm.toList) = Y ∧ (ca == 0) = Y := by
    by_cases h : ca = 0
    · exact ⟨true, by rw [hz0 h]; simp, by simp [h]⟩
    · exact ⟨false, bytes_ne (hnz h), by simp [h]⟩
  have hge2 : (nm.size : Int) ≤ t1.size := by omega
  have hL2 : (L : Int) < n := hla.2
  clear hz0 hnz hne2 heq2
  cases X <;> cases Y
  all_goals
    go_wp2
    go_ret
    exact ⟨rfl, hw6⟩
end Go.Proofs.YtmkkdkgmiplnfaaDoor
