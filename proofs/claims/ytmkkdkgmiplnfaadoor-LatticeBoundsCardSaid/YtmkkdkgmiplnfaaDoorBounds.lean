/-
  LatticeBounds returns true, for any labels, in any memory that holds the length bound of the string search: the walk.
-/
import Derived.Test.YtmkkdkgmiplnfaaDoorSteps
import Derived.Deep.Cut
import Derived.Deep.CutRange
import Derived.Handy
namespace Go.Proofs.YtmkkdkgmiplnfaaDoor
open Go.RowKit

set_option maxRecDepth 100000 in
set_option maxHeartbeats 8000000 in
theorem bounds_walk (la ca lb cb lc cc m : Int) (w : World) (hm : w.cell? ⟨0, 0, none⟩ = some (.int .i64 m)) (jl jk ml mk : Int)
    (e1 : maxI la lb = jl ∧ bits .or .u64 ca cb = jk) (e2 : minI la lb = ml ∧ bits .and .u64 ca cb = mk)
    (d1 : domB jl jk la ca = true) (d2 : domB jl jk lb cb = true) (d3 : domB la ca ml mk = true) (d4 : domB lb cb ml mk = true)
    (d5 : domB lc cc la ca = true → domB lc cc lb cb = true → domB lc cc jl jk = true) (d6 : domB la ca lc cc = true → domB lb cb lc cc = true → domB ml mk lc cc = true)
    (d7 : domB la ca lb cb = true ↔ jl = la ∧ jk = ca) (d8 : domB la ca lb cb = true ↔ ml = lb ∧ mk = cb) :
    Calls Tryd.prog 5 #[.agg #[.int .i64 la, .int .u64 ca], .agg #[.int .i64 lb, .int .u64 cb], .agg #[.int .i64 lc, .int .u64 cc]] w fun e w' => e = .returned (.bool true) ∧ Below w.heap.size w w' := by
  have hnot : ∀ (x : Bool) (w : World), (Op.unary .not (.bool x)).run Tryd.prog w = .ok (.bool (!x)) w := fun _ _ => rfl
  have h0 := lt_of_cell hm
  simp at h0
  have hbw : Below w.heap.size w (((w.alloc (.cells #[.int .i64 la, .int .u64 ca] 27)).alloc (.cells #[.int .i64 lb, .int .u64 cb] 27)).alloc (.cells #[.int .i64 lc, .int .u64 cc] 27)) := (((Below.refl _ _).alloc (Nat.le_refl _) _).alloc (by simp) _).alloc (by simp; omega) _
  have hm1 := (hbw.cell (p := ⟨0, 0, none⟩) (by simpa using h0)).trans hm
  have haw := awake_any m _ hm1
  go_enter Tryd.func5, Tryd.ntmps5
  go_wp2_with fail
  refine haw.mono ?_
  rintro e w1 ⟨rfl, hb1⟩
  have a0 : w1.cell? ⟨w.heap.size, 0, none⟩ = some (.int .i64 la) := by rw [hb1.cell (by simp; try omega)]; go_simp
  have a1 : w1.cell? ⟨w.heap.size, 1, none⟩ = some (.int .u64 ca) := by rw [hb1.cell (by simp; try omega)]; go_simp
  have b0 : w1.cell? ⟨w.heap.size + 1, 0, none⟩ = some (.int .i64 lb) := by rw [hb1.cell (by simp; try omega)]; go_simp
  have b1 : w1.cell? ⟨w.heap.size + 1, 1, none⟩ = some (.int .u64 cb) := by rw [hb1.cell (by simp; try omega)]; go_simp
  have c0 : w1.cell? ⟨w.heap.size + 1 + 1, 0, none⟩ = some (.int .i64 lc) := by rw [hb1.cell (by simp)]; go_simp
  have c1 : w1.cell? ⟨w.heap.size + 1 + 1, 1, none⟩ = some (.int .u64 cc) := by rw [hb1.cell (by simp)]; go_simp
  have hz1 : w.heap.size + 3 ≤ w1.heap.size := by have := hb1.size; simp at this; omega
  have hbw1 : Below w.heap.size w w1 := hbw.trans (hb1.mono (by simp; omega))
  have hK : Hid (∀ W, Below w1.heap.size w1 W → (fun W => W.cell? ⟨w.heap.size, 0, none⟩ = some (.int .i64 la) ∧ W.cell? ⟨w.heap.size, 1, none⟩ = some (.int .u64 ca) ∧ W.cell? ⟨w.heap.size + 1, 0, none⟩ = some (.int .i64 lb) ∧ W.cell? ⟨w.heap.size + 1, 1, none⟩ = some (.int .u64 cb) ∧ Below w1.heap.size w1 W) W) := Lib.hid fun W hb =>
    ⟨(hb.cell (p := ⟨w.heap.size, 0, none⟩) (by simp; try omega)).trans a0, (hb.cell (p := ⟨w.heap.size, 1, none⟩) (by simp; omega)).trans a1, (hb.cell (p := ⟨w.heap.size + 1, 0, none⟩) (by simp; omega)).trans b0, (hb.cell (p := ⟨w.heap.size + 1, 1, none⟩) (by simp; omega)).trans b1, hb⟩
  have hJ : Hid (∀ (l k l' k' : Int) (W : World), (fun W => W.cell? ⟨w.heap.size, 0, none⟩ = some (.int .i64 la) ∧ W.cell? ⟨w.heap.size, 1, none⟩ = some (.int .u64 ca) ∧ W.cell? ⟨w.heap.size + 1, 0, none⟩ = some (.int .i64 lb) ∧ W.cell? ⟨w.heap.size + 1, 1, none⟩ = some (.int .u64 cb) ∧ Below w1.heap.size w1 W) W → Calls Tryd.prog 23 #[.agg #[.int .i64 l, .int .u64 k], .agg #[.int .i64 l', .int .u64 k']] W fun e V => e = .returned (.agg #[.int .i64 (maxI l l'), .int .u64 (bits .or .u64 k k')]) ∧ Below W.heap.size W V ∧ Below w1.heap.size w1 V) := Lib.hid fun l k l' k' W hW =>
    (join_any l k l' k' W).mono fun e V ⟨he, hb⟩ => ⟨he, hb, (hW.2.2.2.2.trans (hb.mono hW.2.2.2.2.size))⟩
  have hM : Hid (∀ (l k l' k' : Int) (W : World), (fun W => W.cell? ⟨w.heap.size, 0, none⟩ = some (.int .i64 la) ∧ W.cell? ⟨w.heap.size, 1, none⟩ = some (.int .u64 ca) ∧ W.cell? ⟨w.heap.size + 1, 0, none⟩ = some (.int .i64 lb) ∧ W.cell? ⟨w.heap.size + 1, 1, none⟩ = some (.int .u64 cb) ∧ Below w1.heap.size w1 W) W → Calls Tryd.prog 25 #[.agg #[.int .i64 l, .int .u64 k], .agg #[.int .i64 l', .int .u64 k']] W fun e V => e = .returned (.agg #[.int .i64 (minI l l'), .int .u64 (bits .and .u64 k k')]) ∧ Below W.heap.size W V ∧ Below w1.heap.size w1 V) := Lib.hid fun l k l' k' W hW =>
    (meet_any l k l' k' W).mono fun e V ⟨he, hb⟩ => ⟨he, hb, (hW.2.2.2.2.trans (hb.mono hW.2.2.2.2.size))⟩
  have hDr : Hid (∀ W, (fun W => W.cell? ⟨w.heap.size, 0, none⟩ = some (.int .i64 la) ∧ W.cell? ⟨w.heap.size, 1, none⟩ = some (.int .u64 ca) ∧ W.cell? ⟨w.heap.size + 1, 0, none⟩ = some (.int .i64 lb) ∧ W.cell? ⟨w.heap.size + 1, 1, none⟩ = some (.int .u64 cb) ∧ Below w1.heap.size w1 W) W → (fun W => W.cell? ⟨w.heap.size, 0, none⟩ = some (.int .i64 la) ∧ W.cell? ⟨w.heap.size, 1, none⟩ = some (.int .u64 ca) ∧ W.cell? ⟨w.heap.size + 1, 0, none⟩ = some (.int .i64 lb) ∧ W.cell? ⟨w.heap.size + 1, 1, none⟩ = some (.int .u64 cb) ∧ Below w1.heap.size w1 W) W.drew) := Lib.hid fun W hW => hK.out _ hW.2.2.2.2.drew
  have hAl : Hid (∀ (W : World) (o : Obj), (fun W => W.cell? ⟨w.heap.size, 0, none⟩ = some (.int .i64 la) ∧ W.cell? ⟨w.heap.size, 1, none⟩ = some (.int .u64 ca) ∧ W.cell? ⟨w.heap.size + 1, 0, none⟩ = some (.int .i64 lb) ∧ W.cell? ⟨w.heap.size + 1, 1, none⟩ = some (.int .u64 cb) ∧ Below w1.heap.size w1 W) W → (fun W => W.cell? ⟨w.heap.size, 0, none⟩ = some (.int .i64 la) ∧ W.cell? ⟨w.heap.size, 1, none⟩ = some (.int .u64 ca) ∧ W.cell? ⟨w.heap.size + 1, 0, none⟩ = some (.int .i64 lb) ∧ W.cell? ⟨w.heap.size + 1, 1, none⟩ = some (.int .u64 cb) ∧ Below w1.heap.size w1 W) (W.alloc o)) := Lib.hid fun W o hW => hK.out _ (hW.2.2.2.2.alloc hW.2.2.2.2.size _)
  have hS1 := hK.out _ (Below.refl _ w1)
  have h1 := Lib.hid e1
  have h2 := Lib.hid e2
  clear hb1 hbw hm hm1 haw e1 e2
  go_wp2_with fail
  go_cut [7, 8] from 9 (fun s7 s8 wc => ∃ p q, s7 = .pointer (some ⟨p, 0, none⟩) ∧ s8 = .pointer (some ⟨q, 0, none⟩) ∧ wc.cell? ⟨p, 0, none⟩ = some (.int .i64 jl) ∧ wc.cell? ⟨p, 1, none⟩ = some (.int .u64 jk) ∧ wc.cell? ⟨q, 0, none⟩ = some (.int .i64 ml) ∧ wc.cell? ⟨q, 1, none⟩ = some (.int .u64 mk) ∧ Below w1.heap.size w1 wc)
  case first =>
    clear a0 a1 b0 b1 c0 c1
    go_region_held3 (fun W => W.cell? ⟨w.heap.size, 0, none⟩ = some (.int .i64 la) ∧ W.cell? ⟨w.heap.size, 1, none⟩ = some (.int .u64 ca) ∧ W.cell? ⟨w.heap.size + 1, 0, none⟩ = some (.int .i64 lb) ∧ W.cell? ⟨w.heap.size + 1, 1, none⟩ = some (.int .u64 cb) ∧ Below w1.heap.size w1 W)
      (first | (refine hK.out _ ?_; go_grown; done) | (trace_state; fail))
      (first
        | (go_at_call 23; refine (hJ.out _ _ _ _ _ ?_).mono ?_; (focus (refine hK.out _ ?_; go_grown; done)); rintro e w2 ⟨rfl, hb2, hx2⟩; have hsx2 := hx2.size; rw [h1.out.1, h1.out.2]; obtain ⟨hcc2, hff2⟩ := bcell hb2; have hz2 := hb2.size; (try simp at hz2); (try (have hy2 : w1.heap.size < w2.heap.size := by omega)); (try (have hyy2 : w1.heap.size + 1 < w2.heap.size := by omega)); (try (have ka00 : w2.cell? ⟨w1.heap.size, 0, none⟩ = some (.int .i64 0) := by rw [hcc2 _ _ (by first | assumption | (simp; done) | (simp; omega))]; go_simp)); (try (have qa00 : w2.frozen? ⟨w1.heap.size, 0, none⟩ = false := by rw [hff2 _ _ (by first | assumption | (simp; done) | (simp; omega))]; go_simp)); (try (have ka01 : w2.cell? ⟨w1.heap.size, 1, none⟩ = some (.int .u64 0) := by rw [hcc2 _ _ (by first | assumption | (simp; done) | (simp; omega))]; go_simp)); (try (have qa01 : w2.frozen? ⟨w1.heap.size, 1, none⟩ = false := by rw [hff2 _ _ (by first | assumption | (simp; done) | (simp; omega))]; go_simp)); (try (have ka10 : w2.cell? ⟨w1.heap.size + 1, 0, none⟩ = some (.int .i64 0) := by rw [hcc2 _ _ (by first | assumption | (simp; done) | (simp; omega))]; go_simp)); (try (have qa10 : w2.frozen? ⟨w1.heap.size + 1, 0, none⟩ = false := by rw [hff2 _ _ (by first | assumption | (simp; done) | (simp; omega))]; go_simp)); (try (have ka11 : w2.cell? ⟨w1.heap.size + 1, 1, none⟩ = some (.int .u64 0) := by rw [hcc2 _ _ (by first | assumption | (simp; done) | (simp; omega))]; go_simp)); (try (have qa11 : w2.frozen? ⟨w1.heap.size + 1, 1, none⟩ = false := by rw [hff2 _ _ (by first | assumption | (simp; done) | (simp; omega))]; go_simp)); clear hcc2 hff2 hb2)
        | (go_at_call 25; refine (hM.out _ _ _ _ _ ?_).mono ?_; (focus (refine hK.out _ ?_; go_grown; done)); rintro e w3 ⟨rfl, hb3, hx3⟩; have hsx3 := hx3.size; rw [h2.out.1, h2.out.2]; obtain ⟨hcc3, hff3⟩ := bcell hb3; have hz3 := hb3.size; (try simp at hz3); (try (have hy3 : w1.heap.size < w3.heap.size := by omega)); (try (have hyy3 : w1.heap.size + 1 < w3.heap.size := by omega)); (try (have hyz3 : w2.heap.size < w3.heap.size := by omega)); (try (have hyzz3 : w2.heap.size + 1 < w3.heap.size := by omega)); (try (have kb00 : w3.cell? ⟨w1.heap.size, 0, none⟩ = some (.int .i64 0) := by rw [hcc3 _ _ (by first | assumption | (simp; done) | (simp; omega))]; go_simp)); (try (have qb00 : w3.frozen? ⟨w1.heap.size, 0, none⟩ = false := by rw [hff3 _ _ (by first | assumption | (simp; done) | (simp; omega))]; go_simp)); (try (have kb01 : w3.cell? ⟨w1.heap.size, 1, none⟩ = some (.int .u64 0) := by rw [hcc3 _ _ (by first | assumption | (simp; done) | (simp; omega))]; go_simp)); (try (have qb01 : w3.frozen? ⟨w1.heap.size, 1, none⟩ = false := by rw [hff3 _ _ (by first | assumption | (simp; done) | (simp; omega))]; go_simp)); (try (have kb10 : w3.cell? ⟨w1.heap.size + 1, 0, none⟩ = some (.int .i64 0) := by rw [hcc3 _ _ (by first | assumption | (simp; done) | (simp; omega))]; go_simp)); (try (have qb10 : w3.frozen? ⟨w1.heap.size + 1, 0, none⟩ = false := by rw [hff3 _ _ (by first | assumption | (simp; done) | (simp; omega))]; go_simp)); (try (have kb11 : w3.cell? ⟨w1.heap.size + 1, 1, none⟩ = some (.int .u64 0) := by rw [hcc3 _ _ (by first | assumption | (simp; done) | (simp; omega))]; go_simp)); (try (have qb11 : w3.frozen? ⟨w1.heap.size + 1, 1, none⟩ = false := by rw [hff3 _ _ (by first | assumption | (simp; done) | (simp; omega))]; go_simp)); (try (have kb20 : w3.cell? ⟨w2.heap.size, 0, none⟩ = some (.int .i64 0) := by rw [hcc3 _ _ (by first | assumption | (simp; done) | (simp; omega))]; go_simp)); (try (have qb20 : w3.frozen? ⟨w2.heap.size, 0, none⟩ = false := by rw [hff3 _ _ (by first | assumption | (simp; done) | (simp; omega))]; go_simp)); (try (have kb21 : w3.cell? ⟨w2.heap.size, 1, none⟩ = some (.int .u64 0) := by rw [hcc3 _ _ (by first | assumption | (simp; done) | (simp; omega))]; go_simp)); (try (have qb21 : w3.frozen? ⟨w2.heap.size, 1, none⟩ = false := by rw [hff3 _ _ (by first | assumption | (simp; done) | (simp; omega))]; go_simp)); (try (have kb30 : w3.cell? ⟨w2.heap.size + 1, 0, none⟩ = some (.int .i64 0) := by rw [hcc3 _ _ (by first | assumption | (simp; done) | (simp; omega))]; go_simp)); (try (have qb30 : w3.frozen? ⟨w2.heap.size + 1, 0, none⟩ = false := by rw [hff3 _ _ (by first | assumption | (simp; done) | (simp; omega))]; go_simp)); (try (have kb31 : w3.cell? ⟨w2.heap.size + 1, 1, none⟩ = some (.int .u64 0) := by rw [hcc3 _ _ (by first | assumption | (simp; done) | (simp; omega))]; go_simp)); (try (have qb31 : w3.frozen? ⟨w2.heap.size + 1, 1, none⟩ = false := by rw [hff3 _ _ (by first | assumption | (simp; done) | (simp; omega))]; go_simp)); clear hcc3 hff3 hb3))
    all_goals
      go_wp2_with fail
      go_meet
      exact ⟨_, _, rfl, rfl, by go_simp, by go_simp, by go_simp, by go_simp, by go_grown⟩
  case rest =>
    obtain ⟨p, q, rfl, rfl, p0, p1, q0, q1, hB⟩ := hcut
    have a2 := (hB.cell (p := ⟨w.heap.size, 0, none⟩) (by simp; omega)).trans a0
    have a3 := (hB.cell (p := ⟨w.heap.size, 1, none⟩) (by simp; omega)).trans a1
    have b2 := (hB.cell (p := ⟨w.heap.size + 1, 0, none⟩) (by simp; omega)).trans b0
    have b3 := (hB.cell (p := ⟨w.heap.size + 1, 1, none⟩) (by simp; omega)).trans b1
    have c2 := (hB.cell (p := ⟨w.heap.size + 1 + 1, 0, none⟩) (by simp; omega)).trans c0
    have c3 := (hB.cell (p := ⟨w.heap.size + 1 + 1, 1, none⟩) (by simp; omega)).trans c1
    have l0 := lt_of_cell a2
    have l1 := lt_of_cell b2
    have l2 := lt_of_cell c2
    have l3 := lt_of_cell p0
    have l4 := lt_of_cell q0
    simp at l0 l1 l2 l3 l4
    have hbwc := hbw1.trans (hB.mono (by omega))
    have hzc : w.heap.size ≤ wc.heap.size := hbwc.size
    clear hK hJ hM hDr hAl hS1 a0 a1 b0 b1 c0 c1 h1 h2 hB
    have hK : Hid (∀ W, Below wc.heap.size wc W → (fun W => W.cell? ⟨w.heap.size, 0, none⟩ = some (.int .i64 la) ∧ W.cell? ⟨w.heap.size, 1, none⟩ = some (.int .u64 ca) ∧ W.cell? ⟨w.heap.size + 1, 0, none⟩ = some (.int .i64 lb) ∧ W.cell? ⟨w.heap.size + 1, 1, none⟩ = some (.int .u64 cb) ∧ W.cell? ⟨w.heap.size + 1 + 1, 0, none⟩ = some (.int .i64 lc) ∧ W.cell? ⟨w.heap.size + 1 + 1, 1, none⟩ = some (.int .u64 cc) ∧ W.cell? ⟨p, 0, none⟩ = some (.int .i64 jl) ∧ W.cell? ⟨p, 1, none⟩ = some (.int .u64 jk) ∧ W.cell? ⟨q, 0, none⟩ = some (.int .i64 ml) ∧ W.cell? ⟨q, 1, none⟩ = some (.int .u64 mk) ∧ Below wc.heap.size wc W) W) := Lib.hid fun W hb =>
      ⟨(hb.cell (p := ⟨w.heap.size, 0, none⟩) l0).trans a2, (hb.cell (p := ⟨w.heap.size, 1, none⟩) l0).trans a3, (hb.cell (p := ⟨w.heap.size + 1, 0, none⟩) l1).trans b2, (hb.cell (p := ⟨w.heap.size + 1, 1, none⟩) l1).trans b3,
        (hb.cell (p := ⟨w.heap.size + 1 + 1, 0, none⟩) l2).trans c2, (hb.cell (p := ⟨w.heap.size + 1 + 1, 1, none⟩) l2).trans c3, (hb.cell (p := ⟨p, 0, none⟩) l3).trans p0, (hb.cell (p := ⟨p, 1, none⟩) l3).trans p1, (hb.cell (p := ⟨q, 0, none⟩) l4).trans q0, (hb.cell (p := ⟨q, 1, none⟩) l4).trans q1, hb⟩
    have hD : Hid (∀ (l k l' k' : Int) (W : World), Below wc.heap.size wc W → Calls Tryd.prog 21 #[.agg #[.int .i64 l, .int .u64 k], .agg #[.int .i64 l', .int .u64 k']] W fun e V => e = .returned (.bool (domB l k l' k')) ∧ Below wc.heap.size wc V) := Lib.hid fun l k l' k' W hW =>
      (dom_any l k l' k' W).mono fun e V ⟨he, hb⟩ => ⟨he, hW.trans (hb.mono hW.size)⟩
    have hr := Below.refl wc.heap.size wc
    have hE : Hid (∀ (l k l' k' : Int) (W : World), (fun W => W.cell? ⟨w.heap.size, 0, none⟩ = some (.int .i64 la) ∧ W.cell? ⟨w.heap.size, 1, none⟩ = some (.int .u64 ca) ∧ W.cell? ⟨w.heap.size + 1, 0, none⟩ = some (.int .i64 lb) ∧ W.cell? ⟨w.heap.size + 1, 1, none⟩ = some (.int .u64 cb) ∧ W.cell? ⟨w.heap.size + 1 + 1, 0, none⟩ = some (.int .i64 lc) ∧ W.cell? ⟨w.heap.size + 1 + 1, 1, none⟩ = some (.int .u64 cc) ∧ W.cell? ⟨p, 0, none⟩ = some (.int .i64 jl) ∧ W.cell? ⟨p, 1, none⟩ = some (.int .u64 jk) ∧ W.cell? ⟨q, 0, none⟩ = some (.int .i64 ml) ∧ W.cell? ⟨q, 1, none⟩ = some (.int .u64 mk) ∧ Below wc.heap.size wc W) W → Calls Tryd.prog 21 #[.agg #[.int .i64 l, .int .u64 k], .agg #[.int .i64 l', .int .u64 k']] W fun e V => e = .returned (.bool (domB l k l' k')) ∧ (fun W => W.cell? ⟨w.heap.size, 0, none⟩ = some (.int .i64 la) ∧ W.cell? ⟨w.heap.size, 1, none⟩ = some (.int .u64 ca) ∧ W.cell? ⟨w.heap.size + 1, 0, none⟩ = some (.int .i64 lb) ∧ W.cell? ⟨w.heap.size + 1, 1, none⟩ = some (.int .u64 cb) ∧ W.cell? ⟨w.heap.size + 1 + 1, 0, none⟩ = some (.int .i64 lc) ∧ W.cell? ⟨w.heap.size + 1 + 1, 1, none⟩ = some (.int .u64 cc) ∧ W.cell? ⟨p, 0, none⟩ = some (.int .i64 jl) ∧ W.cell? ⟨p, 1, none⟩ = some (.int .u64 jk) ∧ W.cell? ⟨q, 0, none⟩ = some (.int .i64 ml) ∧ W.cell? ⟨q, 1, none⟩ = some (.int .u64 mk) ∧ Below wc.heap.size wc W) V) := Lib.hid fun l k l' k' W hW =>
      (dom_any l k l' k' W).mono fun e V ⟨he, hb⟩ => ⟨he, hK.out _ (hW.2.2.2.2.2.2.2.2.2.2.trans (hb.mono hW.2.2.2.2.2.2.2.2.2.2.size))⟩
    have hDr : Hid (∀ W, (fun W => W.cell? ⟨w.heap.size, 0, none⟩ = some (.int .i64 la) ∧ W.cell? ⟨w.heap.size, 1, none⟩ = some (.int .u64 ca) ∧ W.cell? ⟨w.heap.size + 1, 0, none⟩ = some (.int .i64 lb) ∧ W.cell? ⟨w.heap.size + 1, 1, none⟩ = some (.int .u64 cb) ∧ W.cell? ⟨w.heap.size + 1 + 1, 0, none⟩ = some (.int .i64 lc) ∧ W.cell? ⟨w.heap.size + 1 + 1, 1, none⟩ = some (.int .u64 cc) ∧ W.cell? ⟨p, 0, none⟩ = some (.int .i64 jl) ∧ W.cell? ⟨p, 1, none⟩ = some (.int .u64 jk) ∧ W.cell? ⟨q, 0, none⟩ = some (.int .i64 ml) ∧ W.cell? ⟨q, 1, none⟩ = some (.int .u64 mk) ∧ Below wc.heap.size wc W) W → (fun W => W.cell? ⟨w.heap.size, 0, none⟩ = some (.int .i64 la) ∧ W.cell? ⟨w.heap.size, 1, none⟩ = some (.int .u64 ca) ∧ W.cell? ⟨w.heap.size + 1, 0, none⟩ = some (.int .i64 lb) ∧ W.cell? ⟨w.heap.size + 1, 1, none⟩ = some (.int .u64 cb) ∧ W.cell? ⟨w.heap.size + 1 + 1, 0, none⟩ = some (.int .i64 lc) ∧ W.cell? ⟨w.heap.size + 1 + 1, 1, none⟩ = some (.int .u64 cc) ∧ W.cell? ⟨p, 0, none⟩ = some (.int .i64 jl) ∧ W.cell? ⟨p, 1, none⟩ = some (.int .u64 jk) ∧ W.cell? ⟨q, 0, none⟩ = some (.int .i64 ml) ∧ W.cell? ⟨q, 1, none⟩ = some (.int .u64 mk) ∧ Below wc.heap.size wc W) W.drew) := Lib.hid fun W hW => hK.out _ hW.2.2.2.2.2.2.2.2.2.2.drew
    obtain ⟨z, gz, hq1, hq2⟩ : ∃ z : Bool, Hid (domB la ca lb cb = z) ∧ (∀ W, (Op.equalIn 10000 27 (.agg #[.int .i64 jl, .int .u64 jk]) (.agg #[.int .i64 la, .int .u64 ca])).run Tryd.prog W = .ok z W) ∧ (∀ W, (Op.equalIn 10000 27 (.agg #[.int .i64 ml, .int .u64 mk]) (.agg #[.int .i64 lb, .int .u64 cb])).run Tryd.prog W = .ok z W) := by
      cases hz : domB la ca lb cb with
      | true => exact ⟨true, Lib.hid rfl, fun W => by rw [eql_label, decide_eq_true (d7.1 hz)], fun W => by rw [eql_label, decide_eq_true (d8.1 hz)]⟩
      | false =>
        have n7 : ¬ (jl = la ∧ jk = ca) := fun e => by rw [d7.2 e] at hz; cases hz
        have n8 : ¬ (ml = lb ∧ mk = cb) := fun e => by rw [d8.2 e] at hz; cases hz
        exact ⟨false, Lib.hid rfl, fun W => by rw [eql_label, decide_eq_false n7], fun W => by rw [eql_label, decide_eq_false n8]⟩
    have g1 := Lib.hid d1
    have g2 := Lib.hid d2
    have g3 := Lib.hid d3
    have g4 := Lib.hid d4
    have hx : (domB lc cc la ca = false) ∨ (domB lc cc la ca = true ∧ domB lc cc lb cb = false) ∨ (domB lc cc la ca = true ∧ domB lc cc lb cb = true ∧ domB lc cc jl jk = true) := by
      cases h : domB lc cc la ca <;> cases h' : domB lc cc lb cb <;> simp
      exact d5 h h'
    have hy : (domB la ca lc cc = false) ∨ (domB la ca lc cc = true ∧ domB lb cb lc cc = false) ∨ (domB la ca lc cc = true ∧ domB lb cb lc cc = true ∧ domB ml mk lc cc = true) := by
      cases h : domB la ca lc cc <;> cases h' : domB lb cb lc cc <;> simp
      exact d6 h h'
    clear d1 d2 d3 d4 d5 d6 d7 d8
    rcases hx with x1 | ⟨x1, x2⟩ | ⟨x1, x2, x3⟩ <;> rcases hy with y1 | ⟨y1, y2⟩ | ⟨y1, y2, y3⟩ <;> cases z
    all_goals
      try (have X1 := Lib.hid x1; clear x1)
      try (have X2 := Lib.hid x2; clear x2)
      try (have X3 := Lib.hid x3; clear x3)
      try (have Y1 := Lib.hid y1; clear y1)
      try (have Y2 := Lib.hid y2; clear y2)
      try (have Y3 := Lib.hid y3; clear y3)
      go_wp2_with (go_at_call 21; refine (hD.out _ _ _ _ _ ?_).mono ?_; (focus (with_reducible assumption)); rintro e wd ⟨rfl, hBd⟩; obtain ⟨a2, a3, b2, b3, c2, c3, p0, p1, q0, q1, _⟩ := hK.out _ hBd; first | rw [g1.out] | rw [g2.out] | rw [g3.out] | rw [g4.out] | rw [X1.out] | rw [X2.out] | rw [X3.out] | rw [Y1.out] | rw [Y2.out] | rw [Y3.out] | rw [gz.out])
      go_region_held3 (fun W => W.cell? ⟨w.heap.size, 0, none⟩ = some (.int .i64 la) ∧ W.cell? ⟨w.heap.size, 1, none⟩ = some (.int .u64 ca) ∧ W.cell? ⟨w.heap.size + 1, 0, none⟩ = some (.int .i64 lb) ∧ W.cell? ⟨w.heap.size + 1, 1, none⟩ = some (.int .u64 cb) ∧ W.cell? ⟨w.heap.size + 1 + 1, 0, none⟩ = some (.int .i64 lc) ∧ W.cell? ⟨w.heap.size + 1 + 1, 1, none⟩ = some (.int .u64 cc) ∧ W.cell? ⟨p, 0, none⟩ = some (.int .i64 jl) ∧ W.cell? ⟨p, 1, none⟩ = some (.int .u64 jk) ∧ W.cell? ⟨q, 0, none⟩ = some (.int .i64 ml) ∧ W.cell? ⟨q, 1, none⟩ = some (.int .u64 mk) ∧ Below wc.heap.size wc W)
        (first | assumption | exact hDr.out _ (by assumption) | exact hK.out _ (Below.drew (by assumption)) | (trace_state; fail))
        (first
          | (go_at_call 21; refine (hE.out _ _ _ _ _ ?_).mono ?_; assumption; rintro e w3 ⟨rfl, hS2⟩; rw [gz.out]))
    all_goals
      rename_i hS
      have hB := hS.2.2.2.2.2.2.2.2.2.2
      go_wp2
      go_ret
      exact ⟨rfl, hbwc.trans (hB.mono (by omega))⟩
end Go.Proofs.YtmkkdkgmiplnfaaDoor
