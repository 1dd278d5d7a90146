/-
  MarkingPasses returns true, for any lists of strings, any two labels and any text: the walk.
-/
import Derived.Test.YtkjiaklpffnhlaaDoorAwakeM
import Derived.Test.YtkjiaklpffnhlaaDoorIn
import Derived.Test.YtkjiaklpffnhlaaDoorFew
import Derived.Test.YtkjiaklpffnhlaaDoorMarkG
import Derived.Deep.RegionHeld3
namespace Go.Proofs.YtkjiaklpffnhlaaDoor
open Go.RowKit

set_option maxRecDepth 100000 in
set_option maxHeartbeats 8000000 in
theorem mpasses_walk (B n c n' c' : Nat) (A A' : Option Addr) (ss ss' : List ByteArray) (la ca lb cb m : Int) (s : ByteArray) (w : World) (hB : B ≤ w.heap.size) (h1 : Strs w B A n c ss) (h2 : Strs w B A' n' c' ss') (hsz : ∀ s ∈ ss ++ ss', s.size ≤ maxLen)
    (hm : w.cell? ⟨0, 0, none⟩ = some (.int .i64 m)) (hc1 : 0 ≤ ca ∧ ca < 18446744073709551616) (hc2 : 0 ≤ cb ∧ cb < 18446744073709551616) (hs : s.size ≤ maxLen) :
    Calls Tryd.prog 8 #[.agg #[.slice A n c, .slice A' n' c'], .agg #[.int .i64 la, .int .u64 ca], .agg #[.int .i64 lb, .int .u64 cb], .string s] w fun e w' => e = .returned (.bool true) ∧ Below w.heap.size w w' := by
  have hnot : ∀ (x : Bool) (w : World), (Op.unary .not (.bool x)).run Tryd.prog w = .ok (.bool (!x)) w := fun _ _ => rfl
  have h0 := lt_of_cell hm
  simp at h0
  have hbw : Below w.heap.size w (((w.alloc (.cells #[.slice A n c, .slice A' n' c'] 24)).alloc (.cells #[.int .i64 la, .int .u64 ca] 27)).alloc (.cells #[.int .i64 lb, .int .u64 cb] 27)) := (((Below.refl _ _).alloc (Nat.le_refl _) _).alloc (by simp) _).alloc (by simp; omega) _
  have hm1 := (hbw.cell (p := ⟨0, 0, none⟩) (by simpa using h0)).trans hm
  have haw := awakeM_any m _ hm1
  have hl1 := h1.len
  have hl2 := h2.len
  unfold maxLen at hs
  go_enter Tryd.func8, Tryd.ntmps8
  go_wp2_with fail
  refine haw.mono ?_
  rintro e w1 ⟨rfl, hb1⟩
  have a0 : w1.cell? ⟨w.heap.size, 0, none⟩ = some (.slice A n c) := by rw [hb1.cell (by simp; try omega)]; go_simp
  have a1 : w1.cell? ⟨w.heap.size, 1, none⟩ = some (.slice A' n' c') := by rw [hb1.cell (by simp; try omega)]; go_simp
  have b0 : w1.cell? ⟨w.heap.size + 1, 0, none⟩ = some (.int .i64 la) := by rw [hb1.cell (by simp; try omega)]; go_simp
  have b1 : w1.cell? ⟨w.heap.size + 1, 1, none⟩ = some (.int .u64 ca) := by rw [hb1.cell (by simp; try omega)]; go_simp
  have c0 : w1.cell? ⟨w.heap.size + 1 + 1, 0, none⟩ = some (.int .i64 lb) := by rw [hb1.cell (by simp)]; go_simp
  have c1 : w1.cell? ⟨w.heap.size + 1 + 1, 1, none⟩ = some (.int .u64 cb) := by rw [hb1.cell (by simp)]; go_simp
  have hz1 : w.heap.size + 3 ≤ w1.heap.size := by have := hb1.size; simp at this; omega
  have hbw1 : Below w.heap.size w w1 := hbw.trans (hb1.mono (by simp; omega))
  have s1 := h1.below (hbw1.mono hB)
  have s2 := h2.below (hbw1.mono hB)
  have mm := (hbw1.cell (p := ⟨0, 0, none⟩) (by simpa using h0)).trans hm
  have hK : Hid (∀ W, Below w1.heap.size w1 W → W.cell? ⟨w.heap.size, 0, none⟩ = some (.slice A n c) ∧ W.cell? ⟨w.heap.size, 1, none⟩ = some (.slice A' n' c') ∧ W.cell? ⟨w.heap.size + 1, 0, none⟩ = some (.int .i64 la) ∧ W.cell? ⟨w.heap.size + 1, 1, none⟩ = some (.int .u64 ca) ∧ W.cell? ⟨w.heap.size + 1 + 1, 0, none⟩ = some (.int .i64 lb) ∧ W.cell? ⟨w.heap.size + 1 + 1, 1, none⟩ = some (.int .u64 cb) ∧ Strs W B A n c ss ∧ Strs W B A' n' c' ss' ∧ W.cell? ⟨0, 0, none⟩ = some (.int .i64 m) ∧ Below w.heap.size w W) := Lib.hid fun W hb =>
    ⟨(hb.cell (p := ⟨w.heap.size, 0, none⟩) (by simp; omega)).trans a0, (hb.cell (p := ⟨w.heap.size, 1, none⟩) (by simp; omega)).trans a1, (hb.cell (p := ⟨w.heap.size + 1, 0, none⟩) (by simp; omega)).trans b0, (hb.cell (p := ⟨w.heap.size + 1, 1, none⟩) (by simp; omega)).trans b1,
      (hb.cell (p := ⟨w.heap.size + 1 + 1, 0, none⟩) (by simp; omega)).trans c0, (hb.cell (p := ⟨w.heap.size + 1 + 1, 1, none⟩) (by simp; omega)).trans c1, s1.below (hb.mono (by omega)), s2.below (hb.mono (by omega)), (hb.cell (p := ⟨0, 0, none⟩) (by simp; omega)).trans mm, hbw1.trans (hb.mono (by omega))⟩
  have Hsz := Lib.hid hsz
  have Hl1 := Lib.hid hl1
  have Hl2 := Lib.hid hl2
  clear hb1 hbw hm hm1 haw h1 h2 hbw1 mm hsz hl1 hl2
  go_wp2_with fail
  refine (few_any B n c n' c' A A' ss ss' w1 (by omega) s1 s2 Hsz.out).mono ?_
  rintro e w2 ⟨⟨b, rfl⟩, hb2⟩
  clear a0 a1 b0 b1 c0 c1 s1 s2
  obtain ⟨a0, a1, b0, b1, c0, c1, s1, s2, mm, hw2⟩ := hK.out _ hb2
  have hz2 := hb2.size
  cases b
  · go_wp2
    go_ret
    exact ⟨rfl, hw2⟩
  by_cases h3 : s.size ≤ 5000
  case neg =>
    go_wp2
    go_ret
    exact ⟨rfl, hw2⟩
  have hjoin := checked ss ss' la ca lb cb hc1.1 hc1.2 hc2.1 hc2.2 s.data.toList
  obtain ⟨C1, hC1⟩ : ∃ C1, checkB ss ss' la ca s.data.toList = C1 := ⟨_, rfl⟩
  obtain ⟨C2, hC2⟩ : ∃ C2, checkB ss ss' (maxI la lb) (bits .or .u64 ca cb) s.data.toList = C2 := ⟨_, rfl⟩
  obtain ⟨R, hR⟩ : ∃ R, readV (readB ss ss' s.data.toList) = R := ⟨_, rfl⟩
  rw [hC1, hC2, hR] at hjoin
  have H1 := Lib.hid hC1
  have H2 := Lib.hid hC2
  have HR := Lib.hid hR
  clear hC1 hC2 hR
  have hK2 : Hid (∀ W, Below w2.heap.size w2 W → (fun W => W.cell? ⟨w.heap.size, 0, none⟩ = some (.slice A n c) ∧ W.cell? ⟨w.heap.size, 1, none⟩ = some (.slice A' n' c') ∧ W.cell? ⟨w.heap.size + 1, 0, none⟩ = some (.int .i64 la) ∧ W.cell? ⟨w.heap.size + 1, 1, none⟩ = some (.int .u64 ca) ∧ W.cell? ⟨w.heap.size + 1 + 1, 0, none⟩ = some (.int .i64 lb) ∧ W.cell? ⟨w.heap.size + 1 + 1, 1, none⟩ = some (.int .u64 cb) ∧ Below w2.heap.size w2 W) W) := Lib.hid fun W hb =>
    ⟨(hb.cell (p := ⟨w.heap.size, 0, none⟩) (by simp; omega)).trans a0, (hb.cell (p := ⟨w.heap.size, 1, none⟩) (by simp; omega)).trans a1, (hb.cell (p := ⟨w.heap.size + 1, 0, none⟩) (by simp; omega)).trans b0, (hb.cell (p := ⟨w.heap.size + 1, 1, none⟩) (by simp; omega)).trans b1,
      (hb.cell (p := ⟨w.heap.size + 1 + 1, 0, none⟩) (by simp; omega)).trans c0, (hb.cell (p := ⟨w.heap.size + 1 + 1, 1, none⟩) (by simp; omega)).trans c1, hb⟩
  have hJ : Hid (∀ (l k l' k' : Int) (W : World), (fun W => W.cell? ⟨w.heap.size, 0, none⟩ = some (.slice A n c) ∧ W.cell? ⟨w.heap.size, 1, none⟩ = some (.slice A' n' c') ∧ W.cell? ⟨w.heap.size + 1, 0, none⟩ = some (.int .i64 la) ∧ W.cell? ⟨w.heap.size + 1, 1, none⟩ = some (.int .u64 ca) ∧ W.cell? ⟨w.heap.size + 1 + 1, 0, none⟩ = some (.int .i64 lb) ∧ W.cell? ⟨w.heap.size + 1 + 1, 1, none⟩ = some (.int .u64 cb) ∧ Below w2.heap.size w2 W) W → Calls Tryd.prog 22 #[.agg #[.int .i64 l, .int .u64 k], .agg #[.int .i64 l', .int .u64 k']] W fun e V => e = .returned (.agg #[.int .i64 (maxI l l'), .int .u64 (bits .or .u64 k k')]) ∧ (fun W => W.cell? ⟨w.heap.size, 0, none⟩ = some (.slice A n c) ∧ W.cell? ⟨w.heap.size, 1, none⟩ = some (.slice A' n' c') ∧ W.cell? ⟨w.heap.size + 1, 0, none⟩ = some (.int .i64 la) ∧ W.cell? ⟨w.heap.size + 1, 1, none⟩ = some (.int .u64 ca) ∧ W.cell? ⟨w.heap.size + 1 + 1, 0, none⟩ = some (.int .i64 lb) ∧ W.cell? ⟨w.heap.size + 1 + 1, 1, none⟩ = some (.int .u64 cb) ∧ Below w2.heap.size w2 W) V) := Lib.hid fun l k l' k' W hW =>
    (join_any l k l' k' W).mono fun e V ⟨he, hb⟩ => ⟨he, hK2.out _ (hW.2.2.2.2.2.2.trans (hb.mono hW.2.2.2.2.2.2.size))⟩
  have hC : Hid (∀ (l k : Int) (W : World), (fun W => W.cell? ⟨w.heap.size, 0, none⟩ = some (.slice A n c) ∧ W.cell? ⟨w.heap.size, 1, none⟩ = some (.slice A' n' c') ∧ W.cell? ⟨w.heap.size + 1, 0, none⟩ = some (.int .i64 la) ∧ W.cell? ⟨w.heap.size + 1, 1, none⟩ = some (.int .u64 ca) ∧ W.cell? ⟨w.heap.size + 1 + 1, 0, none⟩ = some (.int .i64 lb) ∧ W.cell? ⟨w.heap.size + 1 + 1, 1, none⟩ = some (.int .u64 cb) ∧ Below w2.heap.size w2 W) W → Calls Tryd.prog 33 #[.agg #[.slice A n c, .slice A' n' c'], .agg #[.int .i64 l, .int .u64 k], .string s] W fun e V => e = .returned (.int .i64 (checkB ss ss' l k s.data.toList)) ∧ (fun W => W.cell? ⟨w.heap.size, 0, none⟩ = some (.slice A n c) ∧ W.cell? ⟨w.heap.size, 1, none⟩ = some (.slice A' n' c') ∧ W.cell? ⟨w.heap.size + 1, 0, none⟩ = some (.int .i64 la) ∧ W.cell? ⟨w.heap.size + 1, 1, none⟩ = some (.int .u64 ca) ∧ W.cell? ⟨w.heap.size + 1 + 1, 0, none⟩ = some (.int .i64 lb) ∧ W.cell? ⟨w.heap.size + 1 + 1, 1, none⟩ = some (.int .u64 cb) ∧ Below w2.heap.size w2 W) V) := Lib.hid fun l k W hW =>
    (check_any_m B n c n' c' A A' ss ss' l k s m W (by have := hW.2.2.2.2.2.2.size; omega) (s1.below (hW.2.2.2.2.2.2.mono (by omega))) (s2.below (hW.2.2.2.2.2.2.mono (by omega))) Hsz.out (by omega) ((hW.2.2.2.2.2.2.cell (p := ⟨0, 0, none⟩) (by simp; omega)).trans mm)).mono fun e V ⟨he, hb⟩ => ⟨he, hK2.out _ (hW.2.2.2.2.2.2.trans (hb.mono hW.2.2.2.2.2.2.size))⟩
  have hDr : Hid (∀ W, (fun W => W.cell? ⟨w.heap.size, 0, none⟩ = some (.slice A n c) ∧ W.cell? ⟨w.heap.size, 1, none⟩ = some (.slice A' n' c') ∧ W.cell? ⟨w.heap.size + 1, 0, none⟩ = some (.int .i64 la) ∧ W.cell? ⟨w.heap.size + 1, 1, none⟩ = some (.int .u64 ca) ∧ W.cell? ⟨w.heap.size + 1 + 1, 0, none⟩ = some (.int .i64 lb) ∧ W.cell? ⟨w.heap.size + 1 + 1, 1, none⟩ = some (.int .u64 cb) ∧ Below w2.heap.size w2 W) W → (fun W => W.cell? ⟨w.heap.size, 0, none⟩ = some (.slice A n c) ∧ W.cell? ⟨w.heap.size, 1, none⟩ = some (.slice A' n' c') ∧ W.cell? ⟨w.heap.size + 1, 0, none⟩ = some (.int .i64 la) ∧ W.cell? ⟨w.heap.size + 1, 1, none⟩ = some (.int .u64 ca) ∧ W.cell? ⟨w.heap.size + 1 + 1, 0, none⟩ = some (.int .i64 lb) ∧ W.cell? ⟨w.heap.size + 1 + 1, 1, none⟩ = some (.int .u64 cb) ∧ Below w2.heap.size w2 W) W.drew) := Lib.hid fun W hW => hK2.out _ hW.2.2.2.2.2.2.drew
  have hS1 := hK2.out _ (Below.refl _ w2)
  have Hjoin := Lib.hid hjoin
  clear hjoin a0 a1 b0 b1 c0 c1
  go_wp2_with fail
  go_region_held3 (fun W => W.cell? ⟨w.heap.size, 0, none⟩ = some (.slice A n c) ∧ W.cell? ⟨w.heap.size, 1, none⟩ = some (.slice A' n' c') ∧ W.cell? ⟨w.heap.size + 1, 0, none⟩ = some (.int .i64 la) ∧ W.cell? ⟨w.heap.size + 1, 1, none⟩ = some (.int .u64 ca) ∧ W.cell? ⟨w.heap.size + 1 + 1, 0, none⟩ = some (.int .i64 lb) ∧ W.cell? ⟨w.heap.size + 1 + 1, 1, none⟩ = some (.int .u64 cb) ∧ Below w2.heap.size w2 W)
    (first | assumption | exact hDr.out _ (by assumption) | (trace_state; fail))
    (first
      | (go_at_call 22; refine (hJ.out _ _ _ _ _ ?_).mono ?_; assumption; rintro e w8 ⟨rfl, hS8⟩)
      | (go_at_call 33; refine (hC.out _ _ _ ?_).mono ?_; assumption; rintro e w8 ⟨rfl, hS8⟩; (first | rw [H1.out] | rw [H2.out])))
  all_goals
    rename_i w3 hS3
    have hb3' := hb2.trans (hS3.2.2.2.2.2.2.mono hz2)
    have hz3 := hb3'.size
    clear s1 s2 mm hw2 hS1 hS3 hK2 hJ hC hDr
    obtain ⟨a0, a1, b0, b1, c0, c1, s1, s2, mm, hw3⟩ := hK.out _ hb3'
    go_wp2_with fail
    refine (read_any B n c n' c' A A' ss ss' s m _ (by omega) s1 s2 Hsz.out (by omega) mm).mono ?_
    rintro e w4 ⟨rfl, hb4⟩
    rw [HR.out]
    have hb4' := hb3'.trans (hb4.mono hz3)
    have hz4 := hb4'.size
    rcases Hjoin.out with ⟨L, k, rest, hR, ⟨hd, hc, hj⟩ | ⟨hd, hc⟩⟩ | ⟨z, hz, hR, hc, hj⟩
    · rw [hR, hc, hj]
      have Hd := Lib.hid hd
      clear hR hc hj hd
      have hb5' : Below w1.heap.size w1 (w4.alloc (.cells #[.int .i64 L, .int .u64 k] 27)) := hb4'.alloc hz4 _
      have hz5 := hb5'.size
      clear a0 a1 b0 b1 c0 c1 s1 s2 mm hw3
      obtain ⟨a0, a1, b0, b1, c0, c1, s1, s2, mm, hw5⟩ := hK.out _ hb5'
      go_wp2_with fail
      refine (dom_any la ca L k _).mono ?_
      rintro e w6 ⟨rfl, hb6⟩
      rw [Hd.out]
      have hb6' := hb5'.trans (hb6.mono hz5)
      obtain ⟨_, _, _, _, _, _, _, _, _, hw6⟩ := hK.out _ hb6'
      go_wp2
      go_ret
      exact ⟨rfl, hw6⟩
    · rw [hR, hc]
      have Hd := Lib.hid hd
      clear hR hc hd
      have hb5' : Below w1.heap.size w1 (w4.alloc (.cells #[.int .i64 L, .int .u64 k] 27)) := hb4'.alloc hz4 _
      have hz5 := hb5'.size
      clear a0 a1 b0 b1 c0 c1 s1 s2 mm hw3
      obtain ⟨a0, a1, b0, b1, c0, c1, s1, s2, mm, hw5⟩ := hK.out _ hb5'
      go_wp2_with fail
      refine (dom_any la ca L k _).mono ?_
      rintro e w6 ⟨rfl, hb6⟩
      rw [Hd.out]
      have hb6' := hb5'.trans (hb6.mono hz5)
      obtain ⟨_, _, _, _, _, _, _, _, _, hw6⟩ := hK.out _ hb6'
      go_wp2
      go_ret
      exact ⟨rfl, hw6⟩
    · rw [hR, hc, hj]
      clear hR hc hj
      have hb5' : Below w1.heap.size w1 (w4.alloc (.cells #[.int .i64 0, .int .u64 0] 27)) := hb4'.alloc hz4 _
      obtain ⟨_, _, _, _, _, _, _, _, _, hw5⟩ := hK.out _ hb5'
      rcases hz with rfl | rfl
      all_goals
        go_wp2
        go_ret
        exact ⟨rfl, hw5⟩
end Go.Proofs.YtkjiaklpffnhlaaDoor
