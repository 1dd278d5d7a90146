/-
  LatticeOrder returns true, for any labels, in any memory that holds the length bound of the string search: the walk.
-/
import Derived.Test.YtmkkdkgmiplnfaaDoorAwake
import Derived.Laws.BitsAllLaws
namespace Go.Proofs.YtmkkdkgmiplnfaaDoor
open Go.RowKit

theorem toNat_lt {c : Int} (h1 : c < 18446744073709551616) : c.toNat < 2 ^ 64 := by omega
theorem andNot_zero {a b : Int} (h0 : 0 ≤ a) (h1 : a < 18446744073709551616) (h2 : 0 ≤ b) (h3 : b < 18446744073709551616) : (bits .andNot .u64 a b == 0) = true ↔ ∀ i, a.toNat.testBit i = true → b.toNat.testBit i = true := by
  rw [u64_andNot a b h0 h1 h2 h3, beq_iff_eq]
  have hb := toNat_lt h3
  constructor
  · intro h i hi
    have h' : a.toNat &&& (18446744073709551615 - b.toNat) = 0 := by omega
    have hx : (a.toNat &&& (2 ^ 64 - (b.toNat + 1))).testBit i = false := by
      rw [show 2 ^ 64 - (b.toNat + 1) = 18446744073709551615 - b.toNat by omega, h', Nat.zero_testBit]
    rw [Nat.testBit_and, hi, Nat.testBit_two_pow_sub_succ hb] at hx
    have hi64 : i < 64 := by
      rcases Nat.lt_or_ge i 64 with h | h
      · exact h
      · rw [Nat.testBit_lt_two_pow (Nat.lt_of_lt_of_le (toNat_lt h1) (Nat.pow_le_pow_right (by omega) h))] at hi
        cases hi
    simpa [hi64] using hx
  · intro h
    have : a.toNat &&& (2 ^ 64 - (b.toNat + 1)) = 0 := by
      apply Nat.eq_of_testBit_eq
      intro i
      rw [Nat.testBit_and, Nat.testBit_two_pow_sub_succ hb, Nat.zero_testBit]
      cases ha : a.toNat.testBit i
      · rfl
      · rw [h i ha]; simp
    rw [show 18446744073709551615 - b.toNat = 2 ^ 64 - (b.toNat + 1) by omega, this]
    rfl
/-- A label dominates another where its level is no lower and it has every bit. -/
theorem dom_iff {la ca lb cb : Int} (h0 : 0 ≤ ca) (h1 : ca < 18446744073709551616) (h2 : 0 ≤ cb) (h3 : cb < 18446744073709551616) : domB la ca lb cb = true ↔ lb ≤ la ∧ ∀ i, cb.toNat.testBit i = true → ca.toNat.testBit i = true := by
  unfold domB
  rw [Bool.and_eq_true, decide_eq_true_eq, andNot_zero h2 h3 h0 h1]
theorem dom_self (la ca : Int) (h0 : 0 ≤ ca) (h1 : ca < 18446744073709551616) : domB la ca la ca = true := (dom_iff h0 h1 h0 h1).2 ⟨Int.le_refl _, fun _ h => h⟩
theorem dom_both {la ca lb cb : Int} (h0 : 0 ≤ ca) (h1 : ca < 18446744073709551616) (h2 : 0 ≤ cb) (h3 : cb < 18446744073709551616) (hab : domB la ca lb cb = true) (hba : domB lb cb la ca = true) : la = lb ∧ ca = cb := by
  obtain ⟨x1, y1⟩ := (dom_iff h0 h1 h2 h3).1 hab
  obtain ⟨x2, y2⟩ := (dom_iff h2 h3 h0 h1).1 hba
  have : ca.toNat = cb.toNat := Nat.eq_of_testBit_eq fun i => by
    cases h : ca.toNat.testBit i <;> cases h' : cb.toNat.testBit i
    · rfl
    · rw [y1 i h'] at h; cases h
    · rw [y2 i h] at h'; cases h'
    · rfl
  omega
theorem dom_trans {la ca lb cb lc cc : Int} (h0 : 0 ≤ ca) (h1 : ca < 18446744073709551616) (h2 : 0 ≤ cb) (h3 : cb < 18446744073709551616) (h4 : 0 ≤ cc) (h5 : cc < 18446744073709551616) (hab : domB la ca lb cb = true) (hbc : domB lb cb lc cc = true) : domB la ca lc cc = true := by
  obtain ⟨x1, y1⟩ := (dom_iff h0 h1 h2 h3).1 hab
  obtain ⟨x2, y2⟩ := (dom_iff h2 h3 h4 h5).1 hbc
  exact (dom_iff h0 h1 h4 h5).2 ⟨by omega, fun i h => y1 i (y2 i h)⟩

set_option maxRecDepth 100000 in
set_option maxHeartbeats 1600000 in
theorem order_walk (la ca lb cb lc cc m : Int) (ab ba bc : Bool) (w : World) (hm : w.cell? ⟨0, 0, none⟩ = some (.int .i64 m)) (haa : domB la ca la ca = true) (hab : domB la ca lb cb = ab) (hba : domB lb cb la ca = ba) (hbc : domB lb cb lc cc = bc)
    (heq : ab = true → ba = true → la = lb ∧ ca = cb) (hac : ab = true → bc = true → domB la ca lc cc = true) :
    Calls Tryd.prog 4 #[.agg #[.int .i64 la, .int .u64 ca], .agg #[.int .i64 lb, .int .u64 cb], .agg #[.int .i64 lc, .int .u64 cc]] w fun e w' => e = .returned (.bool true) ∧ Below w.heap.size w w' := by
  have hnot : ∀ (x : Bool) (w : World), (Op.unary .not (.bool x)).run Tryd.prog w = .ok (.bool (!x)) w := fun _ _ => rfl
  have h0 := lt_of_cell hm
  simp at h0
  have hbw : Below w.heap.size w (((w.alloc (.cells #[.int .i64 la, .int .u64 ca] 27)).alloc (.cells #[.int .i64 lb, .int .u64 cb] 27)).alloc (.cells #[.int .i64 lc, .int .u64 cc] 27)) := (((Below.refl _ _).alloc (Nat.le_refl _) _).alloc (by simp) _).alloc (by simp; omega) _
  have hm1 := (hbw.cell (p := ⟨0, 0, none⟩) (by simpa using h0)).trans hm
  have haw := awake_any m _ hm1
  go_enter Tryd.func4, Tryd.ntmps4
  go_wp2_with fail
  refine haw.mono ?_
  rintro e w1 ⟨rfl, hb1⟩
  have a0 : w1.cell? ⟨w.heap.size, 0, none⟩ = some (.int .i64 la) := by rw [hb1.cell (by simp; try omega)]; go_simp
  have a1 : w1.cell? ⟨w.heap.size, 1, none⟩ = some (.int .u64 ca) := by rw [hb1.cell (by simp; try omega)]; go_simp
  have b0 : w1.cell? ⟨w.heap.size + 1, 0, none⟩ = some (.int .i64 lb) := by rw [hb1.cell (by simp; try omega)]; go_simp
  have b1 : w1.cell? ⟨w.heap.size + 1, 1, none⟩ = some (.int .u64 cb) := by rw [hb1.cell (by simp; try omega)]; go_simp
  have c0 : w1.cell? ⟨w.heap.size + 1 + 1, 0, none⟩ = some (.int .i64 lc) := by rw [hb1.cell (by simp)]; go_simp
  have c1 : w1.cell? ⟨w.heap.size + 1 + 1, 1, none⟩ = some (.int .u64 cc) := by rw [hb1.cell (by simp)]; go_simp
  have hz1 : w.heap.size + 3 ≤ w1.heap.size := by have := hb1.size; simp at this; omega
  have hbw1 : Below w.heap.size w w1 := hbw.trans (hb1.mono (by simp; omega))
  have hK : Hid (∀ W, Below w1.heap.size w1 W → (fun W => W.cell? ⟨w.heap.size, 0, none⟩ = some (.int .i64 la) ∧ W.cell? ⟨w.heap.size, 1, none⟩ = some (.int .u64 ca) ∧ W.cell? ⟨w.heap.size + 1, 0, none⟩ = some (.int .i64 lb) ∧ W.cell? ⟨w.heap.size + 1, 1, none⟩ = some (.int .u64 cb) ∧ W.cell? ⟨w.heap.size + 1 + 1, 0, none⟩ = some (.int .i64 lc) ∧ W.cell? ⟨w.heap.size + 1 + 1, 1, none⟩ = some (.int .u64 cc) ∧ Below w1.heap.size w1 W) W) := Lib.hid fun W hb =>
    ⟨(hb.cell (p := ⟨w.heap.size, 0, none⟩) (by simp; try omega)).trans a0, (hb.cell (p := ⟨w.heap.size, 1, none⟩) (by simp; omega)).trans a1, (hb.cell (p := ⟨w.heap.size + 1, 0, none⟩) (by simp; omega)).trans b0, (hb.cell (p := ⟨w.heap.size + 1, 1, none⟩) (by simp; omega)).trans b1,
      (hb.cell (p := ⟨w.heap.size + 1 + 1, 0, none⟩) (by simp; omega)).trans c0, (hb.cell (p := ⟨w.heap.size + 1 + 1, 1, none⟩) (by simp; omega)).trans c1, hb⟩
  have hD : Hid (∀ (l k l' k' : Int) (W : World), (fun W => W.cell? ⟨w.heap.size, 0, none⟩ = some (.int .i64 la) ∧ W.cell? ⟨w.heap.size, 1, none⟩ = some (.int .u64 ca) ∧ W.cell? ⟨w.heap.size + 1, 0, none⟩ = some (.int .i64 lb) ∧ W.cell? ⟨w.heap.size + 1, 1, none⟩ = some (.int .u64 cb) ∧ W.cell? ⟨w.heap.size + 1 + 1, 0, none⟩ = some (.int .i64 lc) ∧ W.cell? ⟨w.heap.size + 1 + 1, 1, none⟩ = some (.int .u64 cc) ∧ Below w1.heap.size w1 W) W → Calls Tryd.prog 21 #[.agg #[.int .i64 l, .int .u64 k], .agg #[.int .i64 l', .int .u64 k']] W fun e V => e = .returned (.bool (domB l k l' k')) ∧ (fun W => W.cell? ⟨w.heap.size, 0, none⟩ = some (.int .i64 la) ∧ W.cell? ⟨w.heap.size, 1, none⟩ = some (.int .u64 ca) ∧ W.cell? ⟨w.heap.size + 1, 0, none⟩ = some (.int .i64 lb) ∧ W.cell? ⟨w.heap.size + 1, 1, none⟩ = some (.int .u64 cb) ∧ W.cell? ⟨w.heap.size + 1 + 1, 0, none⟩ = some (.int .i64 lc) ∧ W.cell? ⟨w.heap.size + 1 + 1, 1, none⟩ = some (.int .u64 cc) ∧ Below w1.heap.size w1 W) V) := Lib.hid fun l k l' k' W hW =>
    (dom_any l k l' k' W).mono fun e V ⟨he, hb⟩ => ⟨he, hK.out _ (hW.2.2.2.2.2.2.trans (hb.mono hW.2.2.2.2.2.2.size))⟩
  have hDr : Hid (∀ W, (fun W => W.cell? ⟨w.heap.size, 0, none⟩ = some (.int .i64 la) ∧ W.cell? ⟨w.heap.size, 1, none⟩ = some (.int .u64 ca) ∧ W.cell? ⟨w.heap.size + 1, 0, none⟩ = some (.int .i64 lb) ∧ W.cell? ⟨w.heap.size + 1, 1, none⟩ = some (.int .u64 cb) ∧ W.cell? ⟨w.heap.size + 1 + 1, 0, none⟩ = some (.int .i64 lc) ∧ W.cell? ⟨w.heap.size + 1 + 1, 1, none⟩ = some (.int .u64 cc) ∧ Below w1.heap.size w1 W) W → (fun W => W.cell? ⟨w.heap.size, 0, none⟩ = some (.int .i64 la) ∧ W.cell? ⟨w.heap.size, 1, none⟩ = some (.int .u64 ca) ∧ W.cell? ⟨w.heap.size + 1, 0, none⟩ = some (.int .i64 lb) ∧ W.cell? ⟨w.heap.size + 1, 1, none⟩ = some (.int .u64 cb) ∧ W.cell? ⟨w.heap.size + 1 + 1, 0, none⟩ = some (.int .i64 lc) ∧ W.cell? ⟨w.heap.size + 1 + 1, 1, none⟩ = some (.int .u64 cc) ∧ Below w1.heap.size w1 W) W.drew) := Lib.hid fun W hW => hK.out _ hW.2.2.2.2.2.2.drew
  have hS1 := hK.out _ (Below.refl _ w1)
  clear hb1 hbw hm hm1 haw a0 a1 b0 b1 c0 c1
  go_wp2_with fail
  go_region_held3 (fun W => W.cell? ⟨w.heap.size, 0, none⟩ = some (.int .i64 la) ∧ W.cell? ⟨w.heap.size, 1, none⟩ = some (.int .u64 ca) ∧ W.cell? ⟨w.heap.size + 1, 0, none⟩ = some (.int .i64 lb) ∧ W.cell? ⟨w.heap.size + 1, 1, none⟩ = some (.int .u64 cb) ∧ W.cell? ⟨w.heap.size + 1 + 1, 0, none⟩ = some (.int .i64 lc) ∧ W.cell? ⟨w.heap.size + 1 + 1, 1, none⟩ = some (.int .u64 cc) ∧ Below w1.heap.size w1 W)
    (first | assumption | exact hK.out _ (by assumption) | exact hK.out _ (Below.drew (by assumption)) | exact hDr.out _ (by assumption) | (trace_state; fail))
    (first | (go_at_call 21; refine (hD.out _ _ _ _ _ ?_).mono ?_; assumption; rintro e w2 ⟨rfl, hS2⟩))
  rename_i hS
  obtain ⟨a0, a1, b0, b1, c0, c1, hB⟩ := hS
  cases ab <;> cases ba <;> cases bc
  all_goals
    try (have hac2 := hac rfl rfl)
    try (obtain ⟨rfl, rfl⟩ := heq rfl rfl)
    clear hac heq
    go_wp2_with (go_at_call 21; refine (hD.out _ _ _ _ _ (hK.out _ (by assumption))).mono ?_; rintro e w3 ⟨rfl, hS3⟩; obtain ⟨a0, a1, b0, b1, c0, c1, hB3⟩ := hS3; first | rw [haa] | rw [hac2] | rw [hab] | rw [hbc])
    go_ret
    exact ⟨rfl, hbw1.trans (Below.mono (by assumption) (by omega))⟩
end Go.Proofs.YtmkkdkgmiplnfaaDoor
