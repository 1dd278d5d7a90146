/-
  Texts of this proof, put together: StT, StU.
-/
import Derived.Test.YtcjmpkfcjcoobaaGreatX45
namespace Go.Proofs.YtcjmpkfcjcoobaaGreat
open Go.RowKit Go.Maps

theorem lay_behind {H : List UInt8 → List UInt8} {ss : List (List UInt8)} {used gen num : Nat} {t : List UInt8} (h : used + secN t.length < ss.length) : (layR H ss used gen num t)[used + secN t.length]? = some emptyR := by
  unfold layR
  rw [if_pos h]
  unfold wroteR
  rw [laid_len, List.getElem?_append_right (by rw [List.length_take, List.length_set]; omega), List.length_take, List.length_set,
    List.getElem?_append_right (by rw [laid_len]; omega), laid_len, List.getElem?_drop]
  rw [show used + secN t.length + (used + secN t.length - min used ss.length - secN t.length) = used + secN t.length by omega]
  exact List.getElem?_set_self h
theorem half_torn {H : List UInt8 → List UInt8} {ss : List (List UInt8)} {gen : Nat} {ts : List (List UInt8)} (h : HalfR H ss gen ts) (he : ss[usedR ts]? = some emptyR) : HalfR H (ss.set (usedR ts + 1) emptyR) gen ts := by
  obtain ⟨more, rfl, hm⟩ := h
  rw [List.getElem?_append_right (by rw [row_len]; exact Nat.le_refl _), row_len, Nat.sub_self] at he
  match more, he with
  | x :: r, he =>
    simp only [List.getElem?_cons_zero, Option.some.injEq] at he
    subst he
    refine ⟨emptyR :: r.set 0 emptyR, ?_, read_empty H _⟩
    rw [List.set_append_right _ _ (by rw [row_len]; omega), row_len, show usedR ts + 1 - usedR ts = 0 + 1 by omega, List.set_cons_succ]
section
variable {d : Dk} {st : StP} {ts : List (List UInt8)} {ps : List PairP}
theorem torn_good (h : GoodS d st ts ps) (hf : st.pl.at_ + 1 < st.sz) (he : (halfD d.ss (st.fr + st.pl.half * st.sz) st.sz)[st.pl.at_]? = some emptyR) (l : List Ch) (hs : secN (printL l).length = 1) :
    ∃ d', commitD (armD d 2 0) st ps l = (d', 6) ∧ GoodS (startD d') st ts ps ∧ d'.ss.length = d.ss.length := by
  have ho := h.off st.pl.half h.half
  obtain ⟨T, hT⟩ : ∃ T, printL l = T := ⟨_, rfl⟩
  rw [hT] at hs
  obtain ⟨x, hx⟩ : ∃ x, (layP st.pl T).getD 0 [] = x := ⟨_, rfl⟩
  have hll : layL st st.pl T = [(st.fr + st.pl.half * st.sz + (st.pl.at_ + 1), []), (st.fr + st.pl.half * st.sz + (st.pl.at_ + 0), x)] := by
    have hn : (layP st.pl T).length = 1 := by
      unfold layP
      rw [List.length_map, List.length_range, hs]
    unfold layL layE
    rw [hs, if_pos hf, hn]
    show [_] ++ (revJ (layP st.pl T) 1).map (layA st st.pl) = _
    unfold revJ
    rw [hx]
    rfl
  have hok : ∀ y ∈ layL st st.pl T, y.1 < (armD d 2 0).ss.length ∧ y.2.length ≤ 64 := layL_ok st st.pl T _ ho (by omega)
  have hcd : commitD (armD d 2 0) st ps l = runD (armD d 2 0) (layL st st.pl T) := by
    unfold commitD
    rw [hT, hs, if_pos (by omega)]
  rw [hll] at hok hcd
  have hrun := run_cut [(st.fr + st.pl.half * st.sz + (st.pl.at_ + 1), []), (st.fr + st.pl.half * st.sz + (st.pl.at_ + 0), x)] (armD d 2 0) 1 (by simp) h.up hok (by show d.wr + 1 + ((1 : Nat) : Int) - d.wr = 2; omega)
  have hss : (d.ss.set (st.fr + st.pl.half * st.sz + (st.pl.at_ + 1)) (fillD [])).set (st.fr + st.pl.half * st.sz + (st.pl.at_ + 0)) ((fillD x).take 0 ++ ((d.ss.set (st.fr + st.pl.half * st.sz + (st.pl.at_ + 1)) (fillD [])).getD (st.fr + st.pl.half * st.sz + (st.pl.at_ + 0)) []).drop 0) = d.ss.set (st.fr + st.pl.half * st.sz + (st.pl.at_ + 1)) emptyR := by
    rw [List.take_zero, List.nil_append, List.drop_zero]
    show (d.ss.set (st.fr + st.pl.half * st.sz + (st.pl.at_ + 1)) emptyR).set (st.fr + st.pl.half * st.sz + (st.pl.at_ + 0)) ((d.ss.set (st.fr + st.pl.half * st.sz + (st.pl.at_ + 1)) emptyR).getD (st.fr + st.pl.half * st.sz + (st.pl.at_ + 0)) []) = _
    obtain ⟨S, hS⟩ : ∃ S, d.ss.set (st.fr + st.pl.half * st.sz + (st.pl.at_ + 1)) emptyR = S := ⟨_, rfl⟩
    have hl : st.fr + st.pl.half * st.sz + (st.pl.at_ + 0) < S.length := by rw [← hS, List.length_set]; omega
    rw [hS, List.getD_eq_getElem?_getD, List.getElem?_eq_getElem hl, Option.getD_some, List.set_getElem_self]
  have hrun2 : runD (armD d 2 0) [(st.fr + st.pl.half * st.sz + (st.pl.at_ + 1), []), (st.fr + st.pl.half * st.sz + (st.pl.at_ + 0), x)] = (⟨(d.ss.set (st.fr + st.pl.half * st.sz + (st.pl.at_ + 1)) (fillD [])).set (st.fr + st.pl.half * st.sz + (st.pl.at_ + 0)) ((fillD x).take 0 ++ ((d.ss.set (st.fr + st.pl.half * st.sz + (st.pl.at_ + 1)) (fillD [])).getD (st.fr + st.pl.half * st.sz + (st.pl.at_ + 0)) []).drop 0), 0, 0, true, d.wr + 1 + 1, d.wr⟩, 6) := hrun
  rw [hss] at hrun2
  refine ⟨_, hcd.trans hrun2, ⟨?_, rfl, Int.le_refl _, Int.le_refl _, h.used, h.num, h.half, h.lost, by show _ ≤ (d.ss.set _ _).length; rw [List.length_set]; exact h.fit, h.sz, h.gen⟩, List.length_set ..⟩
  show GoodR sumH st.sz st.pl.gen ts ps (halfD (d.ss.set (st.fr + st.pl.half * st.sz + (st.pl.at_ + 1)) emptyR) (st.fr + st.pl.half * st.sz) st.sz) (halfD (d.ss.set (st.fr + st.pl.half * st.sz + (st.pl.at_ + 1)) emptyR) (st.fr + (1 - st.pl.half) * st.sz) st.sz)
  rw [half_set (by omega) (by omega), half_set_apart (by omega) (by have := off_apart st st.pl.half h.half; omega)]
  have g := h.good
  refine ⟨by rw [List.length_set]; exact g.lenU, g.lenO, g.some, ?_, g.old, g.told, g.sorted, g.fit, g.room⟩
  rw [h.used] at he ⊢
  exact half_torn g.half he
/-- Behind a commit there is an empty sector. -/
theorem stays_behind (h : GoodS d st ts ps) {l : List Ch} (hl : ∀ c ∈ l, c.fits) (hr : usedR ts + secN (printL l).length < st.sz) :
    ∃ d', runD d (layL st st.pl (printL l)) = (d', 0) ∧ GoodS d' (layS st st.pl (printL l).length 0) (ts ++ [printL l]) (behindP ps l) ∧ d'.wr ≤ d.wr + 1001 ∧ d'.ss.length = d.ss.length ∧ d'.ah = d.ah ∧
      (halfD d'.ss (st.fr + st.pl.half * st.sz) st.sz)[st.pl.at_ + secN (printL l).length]? = some emptyR := by
  obtain ⟨d', h1, h2, h3, h4, h5⟩ := h.stays hl (Nat.le_of_lt hr)
  refine ⟨d', h1, h2, h3, h4, h5, ?_⟩
  have ho := h.off st.pl.half h.half
  have hf : st.pl.at_ + secN (printL l).length < st.sz := by rw [h.used]; exact hr
  have e := run_good h.up h.ca h.ah _ (layL_ok st st.pl _ _ ho (Nat.le_of_lt hf))
  rw [h1] at e
  have e1 := (Prod.mk.inj e).1
  rw [e1]
  show (halfD (setsD d.ss (layL st st.pl (printL l))) (st.fr + st.pl.half * st.sz) st.sz)[_]? = _
  rw [lay_in_half st st.pl _ d.ss ho (Nat.le_of_lt hf)]
  exact lay_behind (by rw [half_len ho]; exact hf)
end
end Go.Proofs.YtcjmpkfcjcoobaaGreat
namespace Go.Proofs.YtcjmpkfcjcoobaaGreat
open Go.RowKit Go.Maps

set_option maxRecDepth 100000 in
set_option maxHeartbeats 4000000 in
theorem made_any (ct : Nat) (h4 : 4 ≤ ct) (h2 : ct % 2 = 0) (hct : ct ≤ 2000) (w : World) :
    Calls Tryz.prog 27 #[.int .i64 (ct : Int)] w fun e w' => ∃ N Nd g d, e = .returned (.tuple #[.pointer (some ⟨Nd, 0, none⟩), .pointer (some ⟨N, 0, none⟩)]) ∧ StoreG w' w.heap.size N Nd g 0 (ct / 2) 1 0 d [] ∧ d.ss.length = ct ∧ Below w.heap.size w w' := by
  have hlen : (newD ct).ss.length = ct := List.length_replicate ..
  have hnew := snew_any w.heap.size w (Nat.le_refl _) ct (by omega) (by omega)
  have hmk : Hid (∀ N g w1, DiskAt w1 w.heap.size N g (newD ct) → w.heap.size ≤ w1.heap.size → Calls Tryz.prog 15 #[.pointer (some ⟨N, 0, none⟩), .int .i64 0, .int .i64 (ct : Int)] w1 fun e w' => ∃ N2 d', e = .returned (.tuple #[.pointer (some ⟨N2, 0, none⟩), .int .i64 0]) ∧
      StoreG w' w.heap.size N2 N g 0 (ct / 2) 1 0 d' [] ∧ d'.ss.length = (newD ct).ss.length ∧ d'.ah = (newD ct).ah ∧ w1.heap.size ≤ N2 ∧ Turned (mineD N g) w1 w') := Lib.hid fun N g w1 hd hB =>
    make_good w.heap.size N g (newD ct) w1 hd hB (Int.le_refl _) rfl (Int.le_refl _) (Int.le_refl _) 0 ct h4 h2 hct (by rw [hlen]; omega)
  rw [hlen] at hmk
  clear h4 h2 hct hlen
  go_enter Tryz.func27, Tryz.ntmps27
  go_wp2_with fail
  refine hnew.mono ?_
  rintro e w1 ⟨N, g, rfl, hD, hb1, hlo⟩
  have hm := hmk.out N g w1 hD hb1.size
  have Hb1 := Lib.hid hb1
  have Hlo := Lib.hid hlo
  clear hD hb1 hlo hmk hnew
  go_wp2_with fail
  --@a
  refine hm.mono ?_
  rintro e w2 ⟨N2, d', rfl, hS, hl, _, _, ht⟩
  have hb2 : Below w.heap.size w w2 := Hb1.out.trans (ht.below Hb1.out.size fun b hb => Hlo.out b hb)
  have HS := Lib.hid (And.intro hS (And.intro hl hb2))
  clear hS hl hb2 ht hm
  go_wp2
  go_ret2
  exact ⟨N2, N, g, d', rfl, HS.out.1, HS.out.2.1, HS.out.2.2⟩
end Go.Proofs.YtcjmpkfcjcoobaaGreat
