/-
  LatticeLaws returns true, for any labels, in any memory that holds the length bound of the string search: the walk.
-/
import Derived.Test.YtmkkdkgmiplnfaaDoorOrder
namespace Go.Proofs.YtmkkdkgmiplnfaaDoor
open Go.RowKit

set_option maxRecDepth 100000 in
set_option maxHeartbeats 16000000 in
theorem laws_walk (la ca lb cb lc cc m : Int) (w : World) (hm : w.cell? ⟨0, 0, none⟩ = some (.int .i64 m)) (jl jk ml mk pl pk ql qk rl rk sl sk : Int)
    (e1 : maxI la lb = jl ∧ bits .or .u64 ca cb = jk) (e2 : maxI lb la = jl ∧ bits .or .u64 cb ca = jk) (e3 : minI la lb = ml ∧ bits .and .u64 ca cb = mk) (e4 : minI lb la = ml ∧ bits .and .u64 cb ca = mk)
    (e5 : maxI lb lc = pl ∧ bits .or .u64 cb cc = pk) (e6 : maxI la pl = rl ∧ bits .or .u64 ca pk = rk) (e7 : maxI jl lc = rl ∧ bits .or .u64 jk cc = rk)
    (e8 : minI lb lc = ql ∧ bits .and .u64 cb cc = qk) (e9 : minI la ql = sl ∧ bits .and .u64 ca qk = sk) (e10 : minI ml lc = sl ∧ bits .and .u64 mk cc = sk)
    (e11 : maxI la ml = la ∧ bits .or .u64 ca mk = ca) (e12 : minI la jl = la ∧ bits .and .u64 ca jk = ca) (e13 : maxI la la = la ∧ bits .or .u64 ca ca = ca) (e14 : minI la la = la ∧ bits .and .u64 ca ca = ca) :
    Calls Tryd.prog 6 #[.agg #[.int .i64 la, .int .u64 ca], .agg #[.int .i64 lb, .int .u64 cb], .agg #[.int .i64 lc, .int .u64 cc]] w fun e w' => e = .returned (.bool true) ∧ Below w.heap.size w w' := by
  have hnot : ∀ (x : Bool) (w : World), (Op.unary .not (.bool x)).run Tryd.prog w = .ok (.bool (!x)) w := fun _ _ => rfl
  have h0 := lt_of_cell hm
  simp at h0
  have hbw : Below w.heap.size w (((w.alloc (.cells #[.int .i64 la, .int .u64 ca] 27)).alloc (.cells #[.int .i64 lb, .int .u64 cb] 27)).alloc (.cells #[.int .i64 lc, .int .u64 cc] 27)) := (((Below.refl _ _).alloc (Nat.le_refl _) _).alloc (by simp) _).alloc (by simp; omega) _
  have hm1 := (hbw.cell (p := ⟨0, 0, none⟩) (by simpa using h0)).trans hm
  have haw := awake_any m _ hm1
  go_enter Tryd.func6, Tryd.ntmps6
  go_wp2_with fail
  refine haw.mono ?_
  rintro e w1 ⟨rfl, hb1⟩
  have a0 : w1.cell? ⟨w.heap.size, 0, none⟩ = some (.int .i64 la) := by rw [hb1.cell (by simp; try omega)]; go_simp
  have a1 : w1.cell? ⟨w.heap.size, 1, none⟩ = some (.int .u64 ca) := by rw [hb1.cell (by simp; try omega)]; go_simp
  have b0 : w1.cell? ⟨w.heap.size + 1, 0, none⟩ = some (.int .i64 lb) := by rw [hb1.cell (by simp; try omega)]; go_simp
  have b1 : w1.cell? ⟨w.heap.size + 1, 1, none⟩ = some (.int .u64 cb) := by rw [hb1.cell (by simp; try omega)]; go_simp
  have c0 : w1.cell? ⟨w.heap.size + 1 + 1, 0, none⟩ = some (.int .i64 lc) := by rw [hb1.cell (by simp)]; go_simp
  have c1 : w1.cell? ⟨w.heap.size + 1 + 1, 1, none⟩ = some (.int .u64 cc) := by rw [hb1.cell (by simp)]; go_simp
  have hz1 : w.heap.size + 3 ≤ w1.heap.size := by have := hb1.size; simp at this; omega
  have hbw1 : Below w.heap.size w w1 := hbw.trans (hb1.mono (by simp; omega))
  have hK : Hid (∀ W, Below w1.heap.size w1 W → (fun W => W.cell? ⟨w.heap.size, 0, none⟩ = some (.int .i64 la) ∧ W.cell? ⟨w.heap.size, 1, none⟩ = some (.int .u64 ca) ∧ W.cell? ⟨w.heap.size + 1, 0, none⟩ = some (.int .i64 lb) ∧ W.cell? ⟨w.heap.size + 1, 1, none⟩ = some (.int .u64 cb) ∧ W.cell? ⟨w.heap.size + 1 + 1, 0, none⟩ = some (.int .i64 lc) ∧ W.cell? ⟨w.heap.size + 1 + 1, 1, none⟩ = some (.int .u64 cc) ∧ Below w1.heap.size w1 W) W) := Lib.hid fun W hb =>
    ⟨(hb.cell (p := ⟨w.heap.size, 0, none⟩) (by simp; try omega)).trans a0, (hb.cell (p := ⟨w.heap.size, 1, none⟩) (by simp; omega)).trans a1, (hb.cell (p := ⟨w.heap.size + 1, 0, none⟩) (by simp; omega)).trans b0, (hb.cell (p := ⟨w.heap.size + 1, 1, none⟩) (by simp; omega)).trans b1,
      (hb.cell (p := ⟨w.heap.size + 1 + 1, 0, none⟩) (by simp; omega)).trans c0, (hb.cell (p := ⟨w.heap.size + 1 + 1, 1, none⟩) (by simp; omega)).trans c1, hb⟩
  have hJ : Hid (∀ (l k l' k' : Int) (W : World), (fun W => W.cell? ⟨w.heap.size, 0, none⟩ = some (.int .i64 la) ∧ W.cell? ⟨w.heap.size, 1, none⟩ = some (.int .u64 ca) ∧ W.cell? ⟨w.heap.size + 1, 0, none⟩ = some (.int .i64 lb) ∧ W.cell? ⟨w.heap.size + 1, 1, none⟩ = some (.int .u64 cb) ∧ W.cell? ⟨w.heap.size + 1 + 1, 0, none⟩ = some (.int .i64 lc) ∧ W.cell? ⟨w.heap.size + 1 + 1, 1, none⟩ = some (.int .u64 cc) ∧ Below w1.heap.size w1 W) W → Calls Tryd.prog 23 #[.agg #[.int .i64 l, .int .u64 k], .agg #[.int .i64 l', .int .u64 k']] W fun e V => e = .returned (.agg #[.int .i64 (maxI l l'), .int .u64 (bits .or .u64 k k')]) ∧ (fun W => W.cell? ⟨w.heap.size, 0, none⟩ = some (.int .i64 la) ∧ W.cell? ⟨w.heap.size, 1, none⟩ = some (.int .u64 ca) ∧ W.cell? ⟨w.heap.size + 1, 0, none⟩ = some (.int .i64 lb) ∧ W.cell? ⟨w.heap.size + 1, 1, none⟩ = some (.int .u64 cb) ∧ W.cell? ⟨w.heap.size + 1 + 1, 0, none⟩ = some (.int .i64 lc) ∧ W.cell? ⟨w.heap.size + 1 + 1, 1, none⟩ = some (.int .u64 cc) ∧ Below w1.heap.size w1 W) V) := Lib.hid fun l k l' k' W hW =>
    (join_any l k l' k' W).mono fun e V ⟨he, hb⟩ => ⟨he, hK.out _ (hW.2.2.2.2.2.2.trans (hb.mono hW.2.2.2.2.2.2.size))⟩
  have hM : Hid (∀ (l k l' k' : Int) (W : World), (fun W => W.cell? ⟨w.heap.size, 0, none⟩ = some (.int .i64 la) ∧ W.cell? ⟨w.heap.size, 1, none⟩ = some (.int .u64 ca) ∧ W.cell? ⟨w.heap.size + 1, 0, none⟩ = some (.int .i64 lb) ∧ W.cell? ⟨w.heap.size + 1, 1, none⟩ = some (.int .u64 cb) ∧ W.cell? ⟨w.heap.size + 1 + 1, 0, none⟩ = some (.int .i64 lc) ∧ W.cell? ⟨w.heap.size + 1 + 1, 1, none⟩ = some (.int .u64 cc) ∧ Below w1.heap.size w1 W) W → Calls Tryd.prog 25 #[.agg #[.int .i64 l, .int .u64 k], .agg #[.int .i64 l', .int .u64 k']] W fun e V => e = .returned (.agg #[.int .i64 (minI l l'), .int .u64 (bits .and .u64 k k')]) ∧ (fun W => W.cell? ⟨w.heap.size, 0, none⟩ = some (.int .i64 la) ∧ W.cell? ⟨w.heap.size, 1, none⟩ = some (.int .u64 ca) ∧ W.cell? ⟨w.heap.size + 1, 0, none⟩ = some (.int .i64 lb) ∧ W.cell? ⟨w.heap.size + 1, 1, none⟩ = some (.int .u64 cb) ∧ W.cell? ⟨w.heap.size + 1 + 1, 0, none⟩ = some (.int .i64 lc) ∧ W.cell? ⟨w.heap.size + 1 + 1, 1, none⟩ = some (.int .u64 cc) ∧ Below w1.heap.size w1 W) V) := Lib.hid fun l k l' k' W hW =>
    (meet_any l k l' k' W).mono fun e V ⟨he, hb⟩ => ⟨he, hK.out _ (hW.2.2.2.2.2.2.trans (hb.mono hW.2.2.2.2.2.2.size))⟩
  have h1 := Lib.hid e1
  have h2 := Lib.hid e2
  have h3 := Lib.hid e3
  have h4 := Lib.hid e4
  have h5 := Lib.hid e5
  have h6 := Lib.hid e6
  have h7 := Lib.hid e7
  have h8 := Lib.hid e8
  have h9 := Lib.hid e9
  have h10 := Lib.hid e10
  have h11 := Lib.hid e11
  have h12 := Lib.hid e12
  have h13 := Lib.hid e13
  have h14 := Lib.hid e14
  have hDr : Hid (∀ W, (fun W => W.cell? ⟨w.heap.size, 0, none⟩ = some (.int .i64 la) ∧ W.cell? ⟨w.heap.size, 1, none⟩ = some (.int .u64 ca) ∧ W.cell? ⟨w.heap.size + 1, 0, none⟩ = some (.int .i64 lb) ∧ W.cell? ⟨w.heap.size + 1, 1, none⟩ = some (.int .u64 cb) ∧ W.cell? ⟨w.heap.size + 1 + 1, 0, none⟩ = some (.int .i64 lc) ∧ W.cell? ⟨w.heap.size + 1 + 1, 1, none⟩ = some (.int .u64 cc) ∧ Below w1.heap.size w1 W) W → (fun W => W.cell? ⟨w.heap.size, 0, none⟩ = some (.int .i64 la) ∧ W.cell? ⟨w.heap.size, 1, none⟩ = some (.int .u64 ca) ∧ W.cell? ⟨w.heap.size + 1, 0, none⟩ = some (.int .i64 lb) ∧ W.cell? ⟨w.heap.size + 1, 1, none⟩ = some (.int .u64 cb) ∧ W.cell? ⟨w.heap.size + 1 + 1, 0, none⟩ = some (.int .i64 lc) ∧ W.cell? ⟨w.heap.size + 1 + 1, 1, none⟩ = some (.int .u64 cc) ∧ Below w1.heap.size w1 W) W.drew) := Lib.hid fun W hW => hK.out _ hW.2.2.2.2.2.2.drew
  have hS1 := hK.out _ (Below.refl _ w1)
  clear hb1 hbw hm hm1 haw a0 a1 b0 b1 c0 c1 e1 e2 e3 e4 e5 e6 e7 e8 e9 e10 e11 e12 e13 e14
  go_wp2_with fail
  simp only [List.append]
  go_region_held3 (fun W => W.cell? ⟨w.heap.size, 0, none⟩ = some (.int .i64 la) ∧ W.cell? ⟨w.heap.size, 1, none⟩ = some (.int .u64 ca) ∧ W.cell? ⟨w.heap.size + 1, 0, none⟩ = some (.int .i64 lb) ∧ W.cell? ⟨w.heap.size + 1, 1, none⟩ = some (.int .u64 cb) ∧ W.cell? ⟨w.heap.size + 1 + 1, 0, none⟩ = some (.int .i64 lc) ∧ W.cell? ⟨w.heap.size + 1 + 1, 1, none⟩ = some (.int .u64 cc) ∧ Below w1.heap.size w1 W)
    (first | assumption | exact hDr.out _ (by assumption) | (trace_state; fail))
    (first
      | (go_at_call 23; refine (hJ.out _ _ _ _ _ ?_).mono ?_; assumption; rintro e w2 ⟨rfl, hS2⟩; first | rw [h1.out.1, h1.out.2] | rw [h2.out.1, h2.out.2] | rw [h5.out.1, h5.out.2] | rw [h6.out.1, h6.out.2] | rw [h7.out.1, h7.out.2] | rw [h11.out.1, h11.out.2] | rw [h13.out.1, h13.out.2])
      | (go_at_call 25; refine (hM.out _ _ _ _ _ ?_).mono ?_; assumption; rintro e w2 ⟨rfl, hS2⟩; first | rw [h3.out.1, h3.out.2] | rw [h4.out.1, h4.out.2] | rw [h8.out.1, h8.out.2] | rw [h9.out.1, h9.out.2] | rw [h10.out.1, h10.out.2] | rw [h12.out.1, h12.out.2] | rw [h14.out.1, h14.out.2]))
  rename_i hS
  have hB := hS.2.2.2.2.2.2
  go_wp2
  go_ret
  exact ⟨rfl, hbw1.trans (hB.mono (by omega))⟩
end Go.Proofs.YtmkkdkgmiplnfaaDoor
