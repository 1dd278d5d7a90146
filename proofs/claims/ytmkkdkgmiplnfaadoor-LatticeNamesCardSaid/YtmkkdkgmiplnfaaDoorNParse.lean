/-
  (*lattice.Names).Parse: what lattice.Parse answers, by the object's tables; one asking counted. Condition: the text is shorter than 4294967281 bytes.
-/
import Derived.Test.YtmkkdkgmiplnfaaDoorNPrint
import Derived.Test.YtmkkdkgmiplnfaaDoorParseL
namespace Go.Proofs.YtmkkdkgmiplnfaaDoor
open Go.RowKit Go.Maps

theorem right_nodup {ls cs : List ByteArray} (h : rightB ls cs = true) : ls.Nodup ∧ cs.Nodup := by
  unfold rightB goodB at h
  simp only [Bool.and_eq_true, decide_eq_true_eq] at h
  have := List.nodup_append.1 h.2.1
  exact ⟨this.1, this.2.1⟩

/-- parseWith over two finders of tables. -/
theorem parseTables (p1 p2 b1 b2 n1 n2 : Nat) (ss ss' : List ByteArray) (s : ByteArray) (m : Int) (W : World) (hs : s.size < 4294967281) (hm : W.cell? ⟨0, 0, none⟩ = some (.int .i64 m))
    (c1 : W.cell? ⟨p1, 0, none⟩ = some (.map (some b1))) (c2 : W.cell? ⟨p2, 0, none⟩ = some (.map (some b2))) (h1 : W.ownsMap Tryd.prog 9 (plainElem (H := Unit) Tryd.prog 3) b1 n1 (tabK ss ss.length)) (h2 : W.ownsMap Tryd.prog 9 (plainElem (H := Unit) Tryd.prog 3) b2 n2 (tabK ss' ss'.length))
    (hd1 : ss.Nodup) (hd2 : ss'.Nodup) (hn' : ss'.length ≤ 64) :
    Calls Tryd.prog 33 #[.string s, .func (.func 56) #[] #[.pointer (some ⟨p1, 0, none⟩)], .func (.func 56) #[] #[.pointer (some ⟨p2, 0, none⟩)]] W fun e w' => e = .returned (parseV (parseF (idxF ss) (idxF ss') s.data.toList)) ∧ Below W.heap.size W w' := by
  have l1 := lt_of_cell c1
  have l2 := lt_of_cell c2
  refine parseWith_any 56 W.heap.size ⟨p1, 0, none⟩ ⟨p2, 0, none⟩ (idxF ss) (idxF ss') s m W hs hm enters_inTable1 (Nat.le_refl _) ?_ ?_ ?_
  · intro W' x hb hx
    exact inTable1_any p1 b1 n1 ss x W' hd1 ((hb.cell (p := ⟨p1, 0, none⟩) l1).trans c1) hx (h1.kept (grownBy_of_below hb none) (by simp))
  · intro W' x hb hx
    exact inTable1_any p2 b2 n2 ss' x W' hd2 ((hb.cell (p := ⟨p2, 0, none⟩) l2).trans c2) hx (h2.kept (grownBy_of_below hb none) (by simp))
  · intro x b hx
    have := (idxF_lt ss' x b hx).1
    omega

set_option maxRecDepth 100000 in
set_option maxHeartbeats 1600000 in
theorem nparse_any (N n c n' c' : Nat) (A A' : Option Addr) (ss ss' : List ByteArray) (s : ByteArray) (a m : Int) (w : World) (h : NamesAt w N n c n' c' A A' ss ss' a) (hr : rightB ss ss' = true) (hs : s.size < 4294967281) (hm : w.cell? ⟨0, 0, none⟩ = some (.int .i64 m)) (hN : 0 < N) :
    Calls Tryd.prog 29 #[.pointer (some ⟨N, 0, none⟩), .string s] w fun e w' => e = .returned (parseV (parseB ss ss' s.data.toList)) ∧ NamesMade w' N n c n' c' A A' ss ss' (wrap64 (a + 1)) ∧ w.grownBy w' (some N) := by
  have hlt := h.lt
  have hs16 := right_sizes hr
  have hc64 := right_comps hr
  have hl16 := right_levels hr
  obtain ⟨hd1, hd2⟩ := right_nodup hr
  have hl12 : ss.length = n ∧ ss'.length = n' := by
    rcases h with ⟨_, h1, h2⟩ | ⟨h1, h2, _⟩
    · exact ⟨h1.len, h2.len⟩
    · exact ⟨h1.len, h2.len⟩
  obtain ⟨hl1, hl2⟩ := hl12
  have hpb : parseB ss ss' s.data.toList = parseF (idxF ss) (idxF ss') s.data.toList := by unfold parseB; rw [if_pos hr]
  rw [hpb]
  have hg0 : w.grownBy (w.alloc (.cells #[.int .i64 0, .int .u64 0] 27)) none := World.grownBy_alloc w _ _
  have hg0' : w.grownBy (w.alloc (.cells #[.int .i64 0, .int .u64 0] 27)) (some N) := World.grownBy_alloc w _ _
  have hask := ask_any N n c n' c' A A' ss ss' a _ (h.grown hg0) (by omega) (by omega) (fun s hs => by have := hs16 s hs; simp [maxLen]; omega)
  have b0 : (w.alloc (.cells #[.int .i64 0, .int .u64 0] 27)).cell? ⟨w.heap.size, 0, none⟩ = some (.int .i64 0) := by go_simp
  have b1 : (w.alloc (.cells #[.int .i64 0, .int .u64 0] 27)).cell? ⟨w.heap.size, 1, none⟩ = some (.int .u64 0) := by go_simp
  have f0 : (w.alloc (.cells #[.int .i64 0, .int .u64 0] 27)).frozen? ⟨w.heap.size, 0, none⟩ = false := by go_simp
  have f1 : (w.alloc (.cells #[.int .i64 0, .int .u64 0] 27)).frozen? ⟨w.heap.size, 1, none⟩ = false := by go_simp
  have hm0 : (w.alloc (.cells #[.int .i64 0, .int .u64 0] 27)).cell? ⟨0, 0, none⟩ = some (.int .i64 m) := by rw [World.cell?_alloc_past _ _ _ (by omega)]; exact hm
  have hz : (w.alloc (.cells #[.int .i64 0, .int .u64 0] 27)).heap.size = w.heap.size + 1 := by simp
  revert hg0' hask b0 b1 f0 f1 hm0 hz
  generalize hw0 : w.alloc (.cells #[.int .i64 0, .int .u64 0] 27) = w0
  intro hg0' hask b0 b1 f0 f1 hm0 hz
  have Hw0 := Lib.hid hw0
  clear hw0 hg0 h hpb hl16 hs16 hr
  go_enter Tryd.func29, Tryd.ntmps29
  go_wp2_with fail
  rw [Hw0.out]
  refine hask.mono ?_
  rintro e w1 ⟨rfl, hM, hg1⟩
  have hbl : w1.heap[w.heap.size]? = w0.heap[w.heap.size]? := hg1.block _ (by omega) (by simp; omega)
  have hbl0 : w1.heap[0]? = w0.heap[0]? := hg1.block _ (by omega) (by simp; omega)
  have e0 : w1.cell? ⟨w.heap.size, 0, none⟩ = some (.int .i64 0) := by rw [← b0]; unfold World.cell?; rw [hbl]
  have e1 : w1.cell? ⟨w.heap.size, 1, none⟩ = some (.int .u64 0) := by rw [← b1]; unfold World.cell?; rw [hbl]
  have q0 : w1.frozen? ⟨w.heap.size, 0, none⟩ = false := by rw [← f0]; unfold World.frozen?; rw [hbl]
  have q1 : w1.frozen? ⟨w.heap.size, 1, none⟩ = false := by rw [← f1]; unfold World.frozen?; rw [hbl]
  have hm1 : w1.cell? ⟨0, 0, none⟩ = some (.int .i64 m) := by rw [← hm0]; unfold World.cell?; rw [hbl0]
  obtain ⟨_, _, ml, mc, hN1, hml, hmc, o1, o2⟩ := id hM
  have c5 := hN1.cell 5
  have c6 := hN1.cell 6
  simp at c5 c6
  have hz1 := hg1.size
  have hltN : N < w1.heap.size := hN1.lt
  have hlt1 : w.heap.size < w1.heap.size := by omega
  have hno : ∀ (b t : Nat) (D : DataW Unit), w1.ownsMap Tryd.prog 9 (plainElem (H := Unit) Tryd.prog 3) b t D → b ≠ w.heap.size := fun b t D ho e => by
    obtain ⟨es, clock, hh, _⟩ := ho
    rw [e] at hh
    simp [World.cell?, hh] at e0
  have hne1 := hno _ _ _ o1
  have hne2 := hno _ _ _ o2
  have hlo1 := o1.lt
  have hlo2 := o2.lt
  have hgw : w.grownBy w1 (some N) := grownBy_trans hg0' hg1
  have hb2 : Below w1.heap.size w1 ((w1.alloc (.cells #[.map (some ml)] 76)).alloc (.cells #[.map (some mc)] 76)).drew := (((Below.refl _ _).alloc (Nat.le_refl _) _).alloc (by simp) _).drew
  have hpw := parseTables w1.heap.size (w1.heap.size + 1) ml mc n n' ss ss' s m ((w1.alloc (.cells #[.map (some ml)] 76)).alloc (.cells #[.map (some mc)] 76)).drew hs ((hb2.cell (p := ⟨0, 0, none⟩) (by simp; omega)).trans hm1) (by go_simp) (by go_simp)
    (o1.kept (grownBy_of_below hb2 none) (by simp)) (o2.kept (grownBy_of_below hb2 none) (by simp)) hd1 hd2 hc64
  generalize hpf : parseF (idxF ss) (idxF ss') s.data.toList = r at hpw ⊢
  have Hpf := Lib.hid hpf
  clear hpf
  have Hpw : Hid (Calls Tryd.prog 33 #[.string s, .func (.func 56) #[] #[.pointer (some ⟨w1.heap.size, 0, none⟩)], .func (.func 56) #[] #[.pointer (some ⟨w1.heap.size + 1, 0, none⟩)]] ((w1.alloc (.cells #[.map (some ml)] 76)).alloc (.cells #[.map (some mc)] 76)).drew fun e w2 =>
      e = .returned (parseV r) ∧ w2.cell? ⟨w.heap.size, 0, none⟩ = some (.int .i64 0) ∧ w2.cell? ⟨w.heap.size, 1, none⟩ = some (.int .u64 0) ∧ w2.frozen? ⟨w.heap.size, 0, none⟩ = false ∧ w2.frozen? ⟨w.heap.size, 1, none⟩ = false ∧ Below w1.heap.size w1 w2) :=
    Lib.hid (hpw.mono fun e w2 ⟨he, hb3⟩ => by
      have hb4 : Below w1.heap.size w1 w2 := hb2.trans (hb3.mono (by simp; omega))
      exact ⟨he, (hb4.cell (p := ⟨w.heap.size, 0, none⟩) hlt1).trans e0, (hb4.cell (p := ⟨w.heap.size, 1, none⟩) hlt1).trans e1, (hb4.frozen (p := ⟨w.heap.size, 0, none⟩) hlt1).trans q0, (hb4.frozen (p := ⟨w.heap.size, 1, none⟩) hlt1).trans q1, hb4⟩)
  have hfin : Hid (∀ (w2 : World) (u v : Value), Below w1.heap.size w1 w2 → NamesMade ((w2.setCell ⟨w.heap.size, 0, none⟩ u).setCell ⟨w.heap.size, 1, none⟩ v) N n c n' c' A A' ss ss' (wrap64 (a + 1)) ∧ w.grownBy ((w2.setCell ⟨w.heap.size, 0, none⟩ u).setCell ⟨w.heap.size, 1, none⟩ v) (some N)) := Lib.hid fun w2 u v hb => by
    have ga : w1.grownBy w2 (some w.heap.size) := grownBy_of_below hb _
    have g := grownBy_trans (grownBy_trans ga (grownBy_set w.heap.size 0 u)) (grownBy_set w.heap.size 1 v)
    have hb' : Below N w1 ((w2.setCell ⟨w.heap.size, 0, none⟩ u).setCell ⟨w.heap.size, 1, none⟩ v) := below_of_grownBy g (by omega) (by omega)
    refine ⟨⟨hM.1.below hb', hM.2.1.below hb', ml, mc, hN1.grown g (by simp; omega), hml, hmc, o1.kept g (by simpa using hne1), o2.kept g (by simpa using hne2)⟩, g.os.trans hgw.os, g.tape.trans hgw.tape, g.output.trans hgw.output, Nat.le_trans hgw.size g.size, fun k hk hne => (g.block k (by omega) (by simp; omega)).trans (hgw.block k hk hne)⟩
  clear hpw hask hg1 hbl hbl0 hM hN1 o1 o2 hgw hb2 Hw0 b0 b1 f0 f1 hm0 hm hm1 hd1 hd2 hc64 hl1 hl2
  rcases r with _ | ⟨lv, cm⟩
  · simp only [parseV] at Hpw
    go_wp2_with fail
    go_region_with (first | (go_at_call 42; refine (inTable_any _ _).mono ?_; rintro e w' ⟨rfl, rfl⟩) | (go_at_call 33; refine Hpw.out.mono ?_; rintro e w2 ⟨rfl, k2, k3, q2, q3, hf⟩))
    all_goals
      go_wp2
      exact bodyPost_ret (v := .tuple #[.agg #[.int .i64 0, .int .u64 0], .int .i64 2]) (by simp [results, Tryd.results29, go_sem, k2, k3]) rfl ⟨by rw [Hpf.out]; rfl, hfin.out w2 _ _ hf⟩
  · simp only [parseV] at Hpw
    go_wp2_with fail
    go_region_with (first | (go_at_call 42; refine (inTable_any _ _).mono ?_; rintro e w' ⟨rfl, rfl⟩) | (go_at_call 33; refine Hpw.out.mono ?_; rintro e w2 ⟨rfl, k2, k3, q2, q3, hf⟩))
    all_goals
      go_wp2
      exact bodyPost_ret (v := .tuple #[.agg #[.int .i64 lv, .int .u64 cm], .int .i64 0]) (by simp [results, Tryd.results29, go_sem, k2, k3]) rfl ⟨by rw [Hpf.out]; rfl, hfin.out w2 _ _ hf⟩
end Go.Proofs.YtmkkdkgmiplnfaaDoor
