/-
  Texts of this proof, put together: St9, StA.
-/
import Derived.Test.YtgpdplffljidbaaGreatDoorZ21
namespace Go.Proofs.YtgpdplffljidbaaGreatDoor
open Go.RowKit Go.Maps

theorem fit_none (clock : Nat) : WideElems.Fit Tryz.prog 9 valR #[] clock := ⟨by simp, MapKept.stamped_empty clock, by simp⟩
theorem MapP.clear {w : World} {m n : Nat} {ps : List PairP} (h : MapP w m n ps) :
    ∃ w', (∀ ty, (Builtin.clear_ #[93] ty #[.map (some m)]).run Tryz.prog w = .ok (.tuple #[]) w') ∧ MapP w' m 0 [] ∧ Turned (fun b => b = m) w w' := by
  obtain ⟨D, ⟨es, clock, hb, F, hs, hD⟩, ht⟩ := h.data
  have hlt := h.lt
  refine ⟨{ w with heap := w.heap.setIfInBounds m (.map #[] clock) }, fun ty => ?_, ⟨List.Pairwise.nil, .map [], ⟨#[], clock, ?_, fit_none clock, Nat.le_refl _, rfl⟩, fun k => ⟨fun _ => rfl, fun v e => (by cases e)⟩⟩, ⟨rfl, rfl, rfl, by simp, fun k _ hk => ?_⟩⟩
  · simp [Builtin.clear_, run_underlying Tryz.underlying93, MapKept.run_getObj_map hb, MapKept.run_setObj_map _ hb, Result.andThen]
  · simp [hlt]
  · simp only [Array.getElem?_setIfInBounds]
    rw [if_neg (fun e => hk e.symm)]
def commitD (d : Dk) (st : StP) (ps : List PairP) (l : List Ch) : Dk × Int := if st.pl.at_ + secN (printL l).length ≤ st.sz then runD d (layL st st.pl (printL l)) else overD d st (behindP ps l)
def commitS (st : StP) (ps : List PairP) (l : List Ch) (code : Int) : StP := if st.pl.at_ + secN (printL l).length ≤ st.sz then layS st st.pl (printL l).length code else layS st (overP st.pl) (sizeP (behindP ps l)) code
def lostS (st : StP) (code : Int) : StP := if code = 6 then ⟨st.fr, st.sz, st.pl, true⟩ else st
theorem CellsOk.setLost {cs : Array Value} {Nd m : Nat} {st : StP} (h : CellsOk cs Nd m st) : CellsOk (cs.setIfInBounds 8 (.bool true)) Nd m ⟨st.fr, st.sz, st.pl, true⟩ := by
  have hz : 8 < cs.size := (Array.getElem?_eq_some_iff.1 h.c8).1
  have ho : ∀ j, j ≠ 8 → (cs.setIfInBounds 8 (.bool true))[j]? = cs[j]? := fun j hj => by rw [set_get9 _ _ _ _ hz, if_neg hj]
  exact ⟨(ho 0 (by decide)).trans h.c0, (ho 1 (by decide)).trans h.c1, (ho 2 (by decide)).trans h.c2, (ho 3 (by decide)).trans h.c3, (ho 4 (by decide)).trans h.c4, (ho 5 (by decide)).trans h.c5, (ho 6 (by decide)).trans h.c6,
    (ho 7 (by decide)).trans h.c7, by rw [set_get9 _ _ _ _ hz, if_pos rfl], h.once.of (by simp) fun j hj => ho j (by omega)⟩

set_option maxRecDepth 100000 in
set_option maxHeartbeats 4000000 in
theorem commit_any (B BB N Nd g m n : Nat) (cs : Array Value) (st : StP) (d : Dk) (ps : List PairP) (w : World) (h : StoreAt w B N Nd g m n cs st d ps) (hB : B ≤ w.heap.size) (hwr : d.wr ≤ 800000000000000)
    (hlost : st.lost = false) (hfr : st.fr ≤ 100000) (hz : st.sz ≤ 10000) (hph : st.pl.half ≤ 1) (hpa : st.pl.at_ ≤ 10000) (hpg : st.pl.gen < 4294967296) (hpn : st.pl.num < 4294967295) (hfp : FitP ps)
    (v : Value) (l : List Ch) (hv : ChsAt w BB v l) (hBB : BB ≤ w.heap.size) (hva : ∀ b, v.ownBlock = some b → b ≠ N ∧ ¬ mineD Nd g b) (hl : l.length ≤ 100000) (hn : n ≤ 500000) (hfit : ∀ c ∈ l, c.fits) (hne : l ≠ []) (hpl : (printL l).length ≤ 400000) (hsz : sizeP (behindP ps l) ≤ 480000) :
    Calls Tryz.prog 18 #[.pointer (some ⟨N, 0, none⟩), v] w fun e w' => ∃ d' code cs' m' n', e = .returned (.int .i64 code) ∧
      commitD d st ps l = (d', code) ∧ StoreAt w' B N Nd g m' n' cs' (lostS (commitS st ps l code) code) d' (if code = 0 then behindP ps l else if code = 6 then [] else ps) ∧ n' ≤ n + l.length ∧
      Turned (mineS N Nd g m) w w' ∧ (m' = m ∨ w.heap.size ≤ m') := by
  have c3 := h.held.cell 3
  have c4 := h.held.cell 4
  have c5 := h.held.cell 5
  have c6 := h.held.cell 6
  rw [h.ok.c3] at c3
  rw [h.ok.c4] at c4
  rw [h.ok.c5] at c5
  rw [h.ok.c6] at c6
  have hNlt := h.held.lt
  have hpr := print_any BB v l w hv hBB hl (by omega)
  obtain ⟨T, hT⟩ : ∃ T, textQ (printL l) = T := ⟨_, rfl⟩
  have hTs : T.size = (printL l).length := by rw [← hT]; rfl
  have hTd : T.data.toList = printL l := by rw [← hT]; rfl
  rw [printV_fit hfit, hT] at hpr
  have hfits : Hid (∀ w2 : World, Below w.heap.size w w2 → Calls Tryz.prog 39 #[.pointer (some ⟨N, 0, none⟩), .agg #[.int .i64 (st.pl.half : Int), .int .i64 (st.pl.at_ : Int), .int .u32 (st.pl.gen : Int), .int .u32 (st.pl.num : Int)], .string T] w2 fun e w' => e = .returned (.bool (decide (st.pl.at_ + secN T.size ≤ st.sz))) ∧ Below w2.heap.size w2 w') := Lib.hid fun w2 hb2 => by
    have hst2 := h.below hb2
    have e2 := hst2.held.cell 2
    rw [hst2.ok.c2] at e2
    exact fits_any N st.sz st.pl T (by omega) (by omega) w2 e2 hst2.held.lt
  have hln : 1 ≤ l.length := by cases l with | nil => exact absurd rfl hne | cons a l => simp
  have hvl : ∃ ao cap, v = .slice ao l.length cap := by
    obtain ⟨ao, cap, e, _⟩ := hv
    exact ⟨ao, cap, e⟩
  obtain ⟨ao, cap, rfl⟩ := hvl
  have hlz : ¬ ((l.length : Int) = 0) := by omega
  by_cases hfs : st.pl.at_ + secN T.size ≤ st.sz
  · have hgo : Hid (∀ w2 : World, Below w.heap.size w w2 → ∀ w3 : World, Below w2.heap.size w2 w3 → Calls Tryz.prog 40 #[.pointer (some ⟨N, 0, none⟩), .slice ao l.length cap, .string T] w3 fun e w' => ∃ d' code cs' m', e = .returned (.int .i64 code) ∧
        commitD d st ps l = (d', code) ∧ StoreAt w' B N Nd g m' (n + l.length) cs' (commitS st ps l code) d' (if code = 0 then behindP ps l else ps) ∧ Turned (mineS N Nd g m) w w' ∧ (m' = m ∨ w.heap.size ≤ m')) := Lib.hid fun w2 hb2 w3 hb3 => by
      have hb : Below w.heap.size w w3 := hb2.trans (hb3.mono hb2.size)
      have hz3 := hb.size
      refine (follow_any B BB N Nd g m n cs st d ps w3 (h.below hb) (by omega) (by omega) hlost hfr (by omega) hph hpa hpg hpn T (by omega) _ l (hv.below hb hBB) (by omega) hva hl (by omega) hfit).mono ?_
      rintro e w' ⟨d', code, cs', h1, h2, h3, h4⟩
      refine ⟨d', code, cs', m, h1, ?_, ?_, (Turned.of_below hb (Nat.le_refl _)).trans h4 fun _ h => .inl h, .inl rfl⟩
      · unfold commitD
        rw [if_pos (by rw [← hTs]; exact hfs), ← hTd]
        exact h2
      · unfold commitS
        rw [if_pos (by rw [← hTs]; exact hfs), ← hTs]
        exact h3
    simp only [decide_eq_true hfs] at hfits
    clear h hv hva hfit hfp hlost hT hTd hTs hne hln
    go_enter Tryz.func18, Tryz.ntmps18
    go_wp2_with (first
      | (go_at_call 38; with_reducible refine hpr.mono ?_; rintro e w2 ⟨rfl, hb2⟩; have hf2 := hfits.out w2 hb2; have hg2 := hgo.out w2 hb2; have e3 := (hb2.cell (p := ⟨N, 3, none⟩) hNlt).trans c3; have e4 := (hb2.cell (p := ⟨N, 4, none⟩) hNlt).trans c4; have e5 := (hb2.cell (p := ⟨N, 5, none⟩) hNlt).trans c5; have e6 := (hb2.cell (p := ⟨N, 6, none⟩) hNlt).trans c6; clear hb2)
      | (go_at_call 39; with_reducible refine hf2.mono ?_; rintro e w3 ⟨rfl, hb3⟩; have hg3 := hg2 w3 hb3; clear hb3 hg2)
      | (go_at_call 40; with_reducible refine hg3.mono ?_; rintro e w4 ⟨d4, code, cs4, m4, rfl, hrun, hst4, ht4, hm4⟩; have n7 := hst4.held.cell 7; rw [hst4.ok.c7] at n7; have n8 := hst4.held.cell 8; rw [hst4.ok.c8] at n8; have f8 := hst4.held.frozen 8; have tN : Turned (fun b => b = N) w4 (w4.setCell ⟨N, 8, none⟩ (.bool true)) := Turned.set rfl; obtain ⟨w5, hclr, hm5, ht5⟩ := (hst4.map.keep tN hst4.mN).clear; have Hs := Lib.hid (And.intro hrun (And.intro hst4 (And.intro ht4 (And.intro hm4 (And.intro tN (And.intro hm5 ht5)))))); clear hrun hst4 ht4 hm4 tN hm5 ht5))
    --@a
    · rename_i hcn
      have hc : code = 6 := by simpa using hcn
      subst hc
      obtain ⟨hrun, hst4, ht4, hm4, tN, hm5, ht5⟩ := Hs.out
      clear hpr hfits hgo
      go_ret
      refine ⟨d4, 6, cs4.setIfInBounds 8 (.bool true), m4, 0, rfl, hrun, ⟨(hst4.held.set 8 _).of_turned ht5 (Ne.symm hst4.mN), ?_, (hst4.disk.keep tN fun b hb e => hst4.apart b hb e).keep ht5 fun b hb e => hst4.mD (e ▸ hb), ?_, hst4.apart⟩, Nat.zero_le _,
        (ht4.trans tN fun b e => .inl (.inl e)).trans ht5 fun b e => hm4.elim (fun h => .inl (.inr (.inr (by rw [e, h])))) fun h => .inr (by omega), hm4⟩
      · unfold lostS
        rw [if_pos rfl]
        exact hst4.ok.setLost
      · rw [if_neg (by decide), if_pos rfl]
        exact hm5
    · rename_i hcn
      have hc : code ≠ 6 := by simpa using hcn
      obtain ⟨hrun, hst4, ht4, hm4, tN, hm5, ht5⟩ := Hs.out
      clear hpr hfits hgo
      go_ret
      refine ⟨d4, code, cs4, m4, n + l.length, rfl, hrun, ?_, Nat.le_refl _, ht4, hm4⟩
      unfold lostS
      rw [if_neg hc, if_neg hc]
      exact hst4
  · have hgo : Hid (∀ w2 : World, Below w.heap.size w w2 → ∀ w3 : World, Below w2.heap.size w2 w3 → Calls Tryz.prog 41 #[.pointer (some ⟨N, 0, none⟩), .slice ao l.length cap] w3 fun e w' => ∃ d' code cs' m', e = .returned (.int .i64 code) ∧
        commitD d st ps l = (d', code) ∧ StoreAt w' B N Nd g m' (n + l.length) cs' (commitS st ps l code) d' (if code = 0 then behindP ps l else ps) ∧ Turned (mineS N Nd g m) w w' ∧ (m' = m ∨ w.heap.size ≤ m')) := Lib.hid fun w2 hb2 w3 hb3 => by
      have hb : Below w.heap.size w w3 := hb2.trans (hb3.mono hb2.size)
      have hz3 := hb.size
      refine (over_any B BB N Nd g m n cs st d ps w3 (h.below hb) (by omega) hwr hlost hfr (by omega) hph hpg hfp _ l (hv.below hb hBB) (by omega) hl hn hfit hsz).mono ?_
      rintro e w' ⟨d', code, cs', m', h1, h2, h3, h4, h5⟩
      refine ⟨d', code, cs', m', h1, ?_, ?_, (Turned.of_below hb (Nat.le_refl _)).trans h4 fun _ h => .inl (h.elim .inl fun h => .inr (.inl h)), h5.imp id fun h => by omega⟩
      · unfold commitD
        rw [if_neg (by rw [← hTs]; exact hfs)]
        exact h2
      · unfold commitS
        rw [if_neg (by rw [← hTs]; exact hfs)]
        exact h3
    simp only [decide_eq_false hfs] at hfits
    clear h hv hva hfit hfp hlost hT hTd hTs hne hln
    go_enter Tryz.func18, Tryz.ntmps18
    go_wp2_with (first
      | (go_at_call 38; with_reducible refine hpr.mono ?_; rintro e w2 ⟨rfl, hb2⟩; have hf2 := hfits.out w2 hb2; have hg2 := hgo.out w2 hb2; have e3 := (hb2.cell (p := ⟨N, 3, none⟩) hNlt).trans c3; have e4 := (hb2.cell (p := ⟨N, 4, none⟩) hNlt).trans c4; have e5 := (hb2.cell (p := ⟨N, 5, none⟩) hNlt).trans c5; have e6 := (hb2.cell (p := ⟨N, 6, none⟩) hNlt).trans c6; clear hb2)
      | (go_at_call 39; with_reducible refine hf2.mono ?_; rintro e w3 ⟨rfl, hb3⟩; have hg3 := hg2 w3 hb3; clear hb3 hg2)
      | (go_at_call 41; with_reducible refine hg3.mono ?_; rintro e w4 ⟨d4, code, cs4, m4, rfl, hrun, hst4, ht4, hm4⟩; have n7 := hst4.held.cell 7; rw [hst4.ok.c7] at n7; have n8 := hst4.held.cell 8; rw [hst4.ok.c8] at n8; have f8 := hst4.held.frozen 8; have tN : Turned (fun b => b = N) w4 (w4.setCell ⟨N, 8, none⟩ (.bool true)) := Turned.set rfl; obtain ⟨w5, hclr, hm5, ht5⟩ := (hst4.map.keep tN hst4.mN).clear; have Hs := Lib.hid (And.intro hrun (And.intro hst4 (And.intro ht4 (And.intro hm4 (And.intro tN (And.intro hm5 ht5)))))); clear hrun hst4 ht4 hm4 tN hm5 ht5))
    --@b
    · rename_i hcn
      have hc : code = 6 := by simpa using hcn
      subst hc
      obtain ⟨hrun, hst4, ht4, hm4, tN, hm5, ht5⟩ := Hs.out
      clear hpr hfits hgo
      go_ret
      refine ⟨d4, 6, cs4.setIfInBounds 8 (.bool true), m4, 0, rfl, hrun, ⟨(hst4.held.set 8 _).of_turned ht5 (Ne.symm hst4.mN), ?_, (hst4.disk.keep tN fun b hb e => hst4.apart b hb e).keep ht5 fun b hb e => hst4.mD (e ▸ hb), ?_, hst4.apart⟩, Nat.zero_le _,
        (ht4.trans tN fun b e => .inl (.inl e)).trans ht5 fun b e => hm4.elim (fun h => .inl (.inr (.inr (by rw [e, h])))) fun h => .inr (by omega), hm4⟩
      · unfold lostS
        rw [if_pos rfl]
        exact hst4.ok.setLost
      · rw [if_neg (by decide), if_pos rfl]
        exact hm5
    · rename_i hcn
      have hc : code ≠ 6 := by simpa using hcn
      obtain ⟨hrun, hst4, ht4, hm4, tN, hm5, ht5⟩ := Hs.out
      clear hpr hfits hgo
      go_ret
      refine ⟨d4, code, cs4, m4, n + l.length, rfl, hrun, ?_, Nat.le_refl _, ht4, hm4⟩
      unfold lostS
      rw [if_neg hc, if_neg hc]
      exact hst4
end Go.Proofs.YtgpdplffljidbaaGreatDoor
namespace Go.Proofs.YtgpdplffljidbaaGreatDoor
open Go.RowKit Go.Maps

set_option maxRecDepth 100000 in
set_option maxHeartbeats 4000000 in
theorem commit_long (BB N : Nat) (v : Value) (l : List Ch) (w : World) (hv : ChsAt w BB v l) (hBB : BB ≤ w.heap.size) (hl : l.length ≤ 100000) (c : Ch) (hc : c ∈ l) (hfit : ¬ c.fits) :
    Calls Tryz.prog 18 #[.pointer (some ⟨N, 0, none⟩), v] w fun e w' => e = .returned (.int .i64 3) ∧ Below w.heap.size w w' := by
  have hpr := print_all BB v l w hv hBB hl fun hall => absurd (hall c hc) hfit
  rw [printV_not hc hfit] at hpr
  clear hv hfit hc
  go_enter Tryz.func18, Tryz.ntmps18
  go_wp2_with (go_at_call 38; with_reducible refine hpr.mono ?_; rintro e w2 ⟨rfl, hb2⟩)
  go_ret
  exact ⟨rfl, hb2⟩

set_option maxRecDepth 100000 in
set_option maxHeartbeats 4000000 in
theorem commit_none (BB N : Nat) (v : Value) (w : World) (hv : ChsAt w BB v []) (hBB : BB ≤ w.heap.size) :
    Calls Tryz.prog 18 #[.pointer (some ⟨N, 0, none⟩), v] w fun e w' => e = .returned (.int .i64 0) ∧ Below w.heap.size w w' := by
  have hpr := print_any BB v [] w hv hBB (by simp) (by simp [printL])
  rw [printV_fit (fun c hc => by cases hc)] at hpr
  obtain ⟨ao, cap, rfl, _⟩ := hv
  simp only [List.length_nil] at hpr ⊢
  go_enter Tryz.func18, Tryz.ntmps18
  go_wp2_with (go_at_call 38; with_reducible refine hpr.mono ?_; rintro e w2 ⟨rfl, hb2⟩)
  --@n
  go_ret
  exact ⟨rfl, hb2⟩

set_option maxRecDepth 100000 in
set_option maxHeartbeats 4000000 in
theorem get_any (B N Nd g m n : Nat) (cs : Array Value) (st : StP) (d : Dk) (ps : List PairP) (w : World) (h : StoreAt w B N Nd g m n cs st d ps) (k : KeyP) (hk : k.length ≤ 1000000) :
    Calls Tryz.prog 23 #[.pointer (some ⟨N, 0, none⟩), .string (textQ k)] w fun e w' => e = .returned (.tuple #[.string (textQ ((findP ps k).getD [])), .bool (findP ps k).isSome]) ∧ Below w.heap.size w w' := by
  have c7 := h.held.cell 7
  rw [h.ok.c7] at c7
  obtain ⟨kt, hkt⟩ : ∃ kt, textQ k = kt := ⟨_, rfl⟩
  have hlook := (h.map.look k kt hkt (by rw [← hkt]; exact hk)).2
  obtain ⟨V, hV⟩ : ∃ V, textQ ((findP ps k).getD []) = V := ⟨_, rfl⟩
  obtain ⟨b, hb⟩ : ∃ b, (findP ps k).isSome = b := ⟨_, rfl⟩
  rw [hV, hb] at hlook ⊢
  rw [hkt]
  have hbe : Below w.heap.size w (w.alloc (.cells #[.string V] 125)) := (Below.refl _ w).alloc (Nat.le_refl _) _
  have Hbe := Lib.hid hbe
  clear h hbe hV hb hkt
  go_enter Tryz.func23, Tryz.ntmps23
  go_wp2
  --@g
  go_ret2
  exact ⟨rfl, Hbe.out⟩
end Go.Proofs.YtgpdplffljidbaaGreatDoor
