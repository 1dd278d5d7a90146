/-
  LatticeSteps returns true, for any label and any two small numbers, in any memory that holds the length bound of the string search: the walk.
-/
import Derived.Test.YtmkkdkgmiplnfaaDoorOrder
namespace Go.Proofs.YtmkkdkgmiplnfaaDoor
open Go.RowKit

theorem eql_label (l k l' k' : Int) (w : World) : (Op.equalIn 10000 27 (.agg #[.int .i64 l, .int .u64 k]) (.agg #[.int .i64 l', .int .u64 k'])).run Tryd.prog w = .ok (decide (l = l' ∧ k = k')) w := by
  by_cases h : l = l' <;> by_cases h' : k = k' <;> simp [go_sem, h, h']

set_option maxRecDepth 100000 in
set_option maxHeartbeats 1600000 in
theorem steps_far (la ca up bit m : Int) (w : World) (hm : w.cell? ⟨0, 0, none⟩ = some (.int .i64 m)) (hf : la > 1099511627776 ∨ la < -1099511627776) :
    Calls Tryd.prog 9 #[.agg #[.int .i64 la, .int .u64 ca], .int .u8 up, .int .u8 bit] w fun e w' => e = .returned (.bool true) ∧ Below w.heap.size w w' := by
  have hnot : ∀ (x : Bool) (w : World), (Op.unary .not (.bool x)).run Tryd.prog w = .ok (.bool (!x)) w := fun _ _ => rfl
  have h0 := lt_of_cell hm
  simp at h0
  have hbw : Below w.heap.size w (w.alloc (.cells #[.int .i64 la, .int .u64 ca] 27)) := (Below.refl _ _).alloc (Nat.le_refl _) _
  have hm1 := (hbw.cell (p := ⟨0, 0, none⟩) (by simpa using h0)).trans hm
  have haw := awake_any m _ hm1
  rcases hf with hf | hf
  · go_enter Tryd.func9, Tryd.ntmps9
    go_wp2_with fail
    refine haw.mono ?_
    rintro e w1 ⟨rfl, hb1⟩
    have a0 : w1.cell? ⟨w.heap.size, 0, none⟩ = some (.int .i64 la) := by rw [hb1.cell (by simp; try omega)]; go_simp
    have a1 : w1.cell? ⟨w.heap.size, 1, none⟩ = some (.int .u64 ca) := by rw [hb1.cell (by simp; try omega)]; go_simp
    have hz1 : w.heap.size < w1.heap.size := by have := hb1.size; simp at this; omega
    have hbw1 : Below w.heap.size w w1 := hbw.trans (hb1.mono (by simp; try omega))
    clear hb1 hbw hm hm1 haw
    go_wp2
    go_ret
    exact ⟨rfl, hbw1⟩
  · have hf2 : ¬ la > 1099511627776 := by omega
    go_enter Tryd.func9, Tryd.ntmps9
    go_wp2_with fail
    refine haw.mono ?_
    rintro e w1 ⟨rfl, hb1⟩
    have a0 : w1.cell? ⟨w.heap.size, 0, none⟩ = some (.int .i64 la) := by rw [hb1.cell (by simp; try omega)]; go_simp
    have a1 : w1.cell? ⟨w.heap.size, 1, none⟩ = some (.int .u64 ca) := by rw [hb1.cell (by simp; try omega)]; go_simp
    have hz1 : w.heap.size < w1.heap.size := by have := hb1.size; simp at this; omega
    have hbw1 : Below w.heap.size w w1 := hbw.trans (hb1.mono (by simp; try omega))
    clear hb1 hbw hm hm1 haw
    go_wp2
    go_ret
    exact ⟨rfl, hbw1⟩

set_option maxRecDepth 100000 in
set_option maxHeartbeats 1600000 in
theorem steps_near (la ca up bit m : Int) (w : World) (hm : w.cell? ⟨0, 0, none⟩ = some (.int .i64 m)) (hf : la ≤ 1099511627776) (hf2 : -1099511627776 ≤ la) (hu : 0 ≤ up ∧ up < 256) (hbt : 0 ≤ bit ∧ bit < 256) (lb kb kc : Int) (hlb : la + up = lb) (hkb : bits .or .u64 ca (IntKind.u64.wrap (2 ^ (bit % 64).toNat)) = kb) (hkc : bits .andNot .u64 ca (IntKind.u64.wrap (2 ^ (bit % 64).toNat)) = kc)
    (d1 : domB lb kb la ca = true) (d2 : domB la ca la kc = true) (d3 : domB la ca lb kb = true ↔ la = lb ∧ ca = kb) (d4 : domB la kc la ca = true ↔ ca = kc) :
    Calls Tryd.prog 9 #[.agg #[.int .i64 la, .int .u64 ca], .int .u8 up, .int .u8 bit] w fun e w' => e = .returned (.bool true) ∧ Below w.heap.size w w' := by
  have hnot : ∀ (x : Bool) (w : World), (Op.unary .not (.bool x)).run Tryd.prog w = .ok (.bool (!x)) w := fun _ _ => rfl
  have h0 := lt_of_cell hm
  simp at h0
  have hbw : Below w.heap.size w (w.alloc (.cells #[.int .i64 la, .int .u64 ca] 27)) := (Below.refl _ _).alloc (Nat.le_refl _) _
  have hm1 := (hbw.cell (p := ⟨0, 0, none⟩) (by simpa using h0)).trans hm
  have haw := awake_any m _ hm1
  go_enter Tryd.func9, Tryd.ntmps9
  go_wp2_with fail
  refine haw.mono ?_
  rintro e w1 ⟨rfl, hb1⟩
  have a0 : w1.cell? ⟨w.heap.size, 0, none⟩ = some (.int .i64 la) := by rw [hb1.cell (by simp; try omega)]; go_simp
  have a1 : w1.cell? ⟨w.heap.size, 1, none⟩ = some (.int .u64 ca) := by rw [hb1.cell (by simp; try omega)]; go_simp
  have hz1 : w.heap.size < w1.heap.size := by have := hb1.size; simp at this; omega
  have hbw1 : Below w.heap.size w w1 := hbw.trans (hb1.mono (by simp; try omega))
  clear hb1 hbw hm hm1 haw
  go_wp2_with fail
  try simp only [hlb, hkb, hkc]
  clear hlb hkb hkc
  have hbn : Below w1.heap.size w1 ((w1.alloc (.cells #[.int .i64 lb, .int .u64 kb] 27)).alloc (.cells #[.int .i64 la, .int .u64 kc] 27)) := ((Below.refl _ _).alloc (Nat.le_refl _) _).alloc (by simp) _
  have a2 := (hbn.cell (p := ⟨w.heap.size, 0, none⟩) hz1).trans a0
  have a3 := (hbn.cell (p := ⟨w.heap.size, 1, none⟩) hz1).trans a1
  have b0 : ((w1.alloc (.cells #[.int .i64 lb, .int .u64 kb] 27)).alloc (.cells #[.int .i64 la, .int .u64 kc] 27)).cell? ⟨w1.heap.size, 0, none⟩ = some (.int .i64 lb) := by go_simp
  have b1 : ((w1.alloc (.cells #[.int .i64 lb, .int .u64 kb] 27)).alloc (.cells #[.int .i64 la, .int .u64 kc] 27)).cell? ⟨w1.heap.size, 1, none⟩ = some (.int .u64 kb) := by go_simp
  have c0 : ((w1.alloc (.cells #[.int .i64 lb, .int .u64 kb] 27)).alloc (.cells #[.int .i64 la, .int .u64 kc] 27)).cell? ⟨w1.heap.size + 1, 0, none⟩ = some (.int .i64 la) := by go_simp
  have c1 : ((w1.alloc (.cells #[.int .i64 lb, .int .u64 kb] 27)).alloc (.cells #[.int .i64 la, .int .u64 kc] 27)).cell? ⟨w1.heap.size + 1, 1, none⟩ = some (.int .u64 kc) := by go_simp
  have hz2 : ((w1.alloc (.cells #[.int .i64 lb, .int .u64 kb] 27)).alloc (.cells #[.int .i64 la, .int .u64 kc] 27)).heap.size = w1.heap.size + 1 + 1 := by simp
  have hbw2 := hbw1.trans (hbn.mono (by omega))
  clear hbn a0 a1
  revert a2 a3 b0 b1 c0 c1 hz2 hbw2
  generalize (w1.alloc (.cells #[.int .i64 lb, .int .u64 kb] 27)).alloc (.cells #[.int .i64 la, .int .u64 kc] 27) = w2
  intro a0 a1 b0 b1 c0 c1 hz2 hbw2
  have hK : Hid (∀ W, Below w2.heap.size w2 W → (fun W => W.cell? ⟨w.heap.size, 0, none⟩ = some (.int .i64 la) ∧ W.cell? ⟨w.heap.size, 1, none⟩ = some (.int .u64 ca) ∧ W.cell? ⟨w1.heap.size, 0, none⟩ = some (.int .i64 lb) ∧ W.cell? ⟨w1.heap.size, 1, none⟩ = some (.int .u64 kb) ∧ W.cell? ⟨w1.heap.size + 1, 0, none⟩ = some (.int .i64 la) ∧ W.cell? ⟨w1.heap.size + 1, 1, none⟩ = some (.int .u64 kc) ∧ Below w2.heap.size w2 W) W) := Lib.hid fun W hb =>
    ⟨(hb.cell (p := ⟨w.heap.size, 0, none⟩) (by simp; omega)).trans a0, (hb.cell (p := ⟨w.heap.size, 1, none⟩) (by simp; omega)).trans a1, (hb.cell (p := ⟨w1.heap.size, 0, none⟩) (by simp; omega)).trans b0, (hb.cell (p := ⟨w1.heap.size, 1, none⟩) (by simp; omega)).trans b1,
      (hb.cell (p := ⟨w1.heap.size + 1, 0, none⟩) (by simp; omega)).trans c0, (hb.cell (p := ⟨w1.heap.size + 1, 1, none⟩) (by simp; omega)).trans c1, hb⟩
  have hD : Hid (∀ (l k l' k' : Int) (W : World), (fun W => W.cell? ⟨w.heap.size, 0, none⟩ = some (.int .i64 la) ∧ W.cell? ⟨w.heap.size, 1, none⟩ = some (.int .u64 ca) ∧ W.cell? ⟨w1.heap.size, 0, none⟩ = some (.int .i64 lb) ∧ W.cell? ⟨w1.heap.size, 1, none⟩ = some (.int .u64 kb) ∧ W.cell? ⟨w1.heap.size + 1, 0, none⟩ = some (.int .i64 la) ∧ W.cell? ⟨w1.heap.size + 1, 1, none⟩ = some (.int .u64 kc) ∧ Below w2.heap.size w2 W) W → Calls Tryd.prog 21 #[.agg #[.int .i64 l, .int .u64 k], .agg #[.int .i64 l', .int .u64 k']] W fun e V => e = .returned (.bool (domB l k l' k')) ∧ (fun W => W.cell? ⟨w.heap.size, 0, none⟩ = some (.int .i64 la) ∧ W.cell? ⟨w.heap.size, 1, none⟩ = some (.int .u64 ca) ∧ W.cell? ⟨w1.heap.size, 0, none⟩ = some (.int .i64 lb) ∧ W.cell? ⟨w1.heap.size, 1, none⟩ = some (.int .u64 kb) ∧ W.cell? ⟨w1.heap.size + 1, 0, none⟩ = some (.int .i64 la) ∧ W.cell? ⟨w1.heap.size + 1, 1, none⟩ = some (.int .u64 kc) ∧ Below w2.heap.size w2 W) V) := Lib.hid fun l k l' k' W hW =>
    (dom_any l k l' k' W).mono fun e V ⟨he, hb⟩ => ⟨he, hK.out _ (hW.2.2.2.2.2.2.trans (hb.mono hW.2.2.2.2.2.2.size))⟩
  have hDr : Hid (∀ W, (fun W => W.cell? ⟨w.heap.size, 0, none⟩ = some (.int .i64 la) ∧ W.cell? ⟨w.heap.size, 1, none⟩ = some (.int .u64 ca) ∧ W.cell? ⟨w1.heap.size, 0, none⟩ = some (.int .i64 lb) ∧ W.cell? ⟨w1.heap.size, 1, none⟩ = some (.int .u64 kb) ∧ W.cell? ⟨w1.heap.size + 1, 0, none⟩ = some (.int .i64 la) ∧ W.cell? ⟨w1.heap.size + 1, 1, none⟩ = some (.int .u64 kc) ∧ Below w2.heap.size w2 W) W → (fun W => W.cell? ⟨w.heap.size, 0, none⟩ = some (.int .i64 la) ∧ W.cell? ⟨w.heap.size, 1, none⟩ = some (.int .u64 ca) ∧ W.cell? ⟨w1.heap.size, 0, none⟩ = some (.int .i64 lb) ∧ W.cell? ⟨w1.heap.size, 1, none⟩ = some (.int .u64 kb) ∧ W.cell? ⟨w1.heap.size + 1, 0, none⟩ = some (.int .i64 la) ∧ W.cell? ⟨w1.heap.size + 1, 1, none⟩ = some (.int .u64 kc) ∧ Below w2.heap.size w2 W) W.drew) := Lib.hid fun W hW => hK.out _ hW.2.2.2.2.2.2.drew
  have g1 := Lib.hid d1
  have g2 := Lib.hid d2
  have hS1 := hK.out _ (Below.refl _ w2)
  clear a0 a1 b0 b1 c0 c1
  have hcase : (la = lb ∧ ca = kb) ∨ (¬ la = lb) ∨ (la = lb ∧ ¬ ca = kb) := by by_cases h : la = lb <;> by_cases h' : ca = kb <;> simp [h, h']
  have hcase2 : ca = kc ∨ ¬ ca = kc := by by_cases h' : ca = kc <;> simp [h']
  have d3' : ¬ (la = lb ∧ ca = kb) → domB la ca lb kb = false := fun hx => by simpa using fun h => hx (d3.1 h)
  have d4' : ¬ ca = kc → domB la kc la ca = false := fun hy => by simpa using fun h => hy (d4.1 h)
  obtain ⟨x1, g3, hq1⟩ : ∃ x : Bool, Hid (domB la ca lb kb = x) ∧ ∀ W, (Op.equalIn 10000 27 (.agg #[.int .i64 la, .int .u64 ca]) (.agg #[.int .i64 lb, .int .u64 kb])).run Tryd.prog W = .ok x W := by
    by_cases h : la = lb ∧ ca = kb
    · exact ⟨true, Lib.hid (d3.2 h), fun W => by rw [eql_label, decide_eq_true h]⟩
    · exact ⟨false, Lib.hid (d3' h), fun W => by rw [eql_label, decide_eq_false h]⟩
  obtain ⟨x2, g4, hq2⟩ : ∃ x : Bool, Hid (domB la kc la ca = x) ∧ ∀ W, (Op.equalIn 10000 27 (.agg #[.int .i64 la, .int .u64 ca]) (.agg #[.int .i64 la, .int .u64 kc])).run Tryd.prog W = .ok x W := by
    by_cases h : ca = kc
    · exact ⟨true, Lib.hid (d4.2 h), fun W => by rw [eql_label, decide_eq_true ⟨rfl, h⟩]⟩
    · exact ⟨false, Lib.hid (d4' h), fun W => by rw [eql_label, decide_eq_false (fun e => h e.2)]⟩
  clear hcase hcase2
  cases x1 <;> cases x2
  all_goals
    clear d1 d2 d3 d4 d3' d4'
    go_region_held3 (fun W => W.cell? ⟨w.heap.size, 0, none⟩ = some (.int .i64 la) ∧ W.cell? ⟨w.heap.size, 1, none⟩ = some (.int .u64 ca) ∧ W.cell? ⟨w1.heap.size, 0, none⟩ = some (.int .i64 lb) ∧ W.cell? ⟨w1.heap.size, 1, none⟩ = some (.int .u64 kb) ∧ W.cell? ⟨w1.heap.size + 1, 0, none⟩ = some (.int .i64 la) ∧ W.cell? ⟨w1.heap.size + 1, 1, none⟩ = some (.int .u64 kc) ∧ Below w2.heap.size w2 W)
      (first | assumption | exact hDr.out _ (by assumption) | (trace_state; fail))
      (first
        | (go_at_call 21; refine (hD.out _ _ _ _ _ ?_).mono ?_; assumption; rintro e w3 ⟨rfl, hS2⟩; first | rw [g1.out] | rw [g2.out] | rw [g3.out] | rw [g4.out]))
  all_goals
    rename_i hS
    have hB := hS.2.2.2.2.2.2
    go_wp2
    go_ret
    exact ⟨rfl, hbw2.trans (hB.mono (by omega))⟩
end Go.Proofs.YtmkkdkgmiplnfaaDoor
