/-
  Texts of this proof, put together: StA, StB.
-/
import Derived.Test.YtcjmpkfcjcoobaaGreatX36
import Derived.Test.YtcjmpkfcjcoobaaGreatX10
namespace Go.Proofs.YtcjmpkfcjcoobaaGreat
open Go.RowKit Go.Maps

set_option maxRecDepth 100000 in
set_option maxHeartbeats 4000000 in
theorem commit_long (BB N : Nat) (v : Value) (l : List Ch) (w : World) (hv : ChsAt w BB v l) (hBB : BB ≤ w.heap.size) (hl : l.length ≤ 100000) (c : Ch) (hc : c ∈ l) (hfit : ¬ c.fits) :
    Calls Tryz.prog 19 #[.pointer (some ⟨N, 0, none⟩), v] w fun e w' => e = .returned (.int .i64 3) ∧ Below w.heap.size w w' := by
  have hpr := print_all BB v l w hv hBB hl fun hall => absurd (hall c hc) hfit
  rw [printV_not hc hfit] at hpr
  clear hv hfit hc
  go_enter Tryz.func19, Tryz.ntmps19
  go_wp2_with (go_at_call 8; with_reducible refine hpr.mono ?_; rintro e w2 ⟨rfl, hb2⟩)
  go_ret
  exact ⟨rfl, hb2⟩

set_option maxRecDepth 100000 in
set_option maxHeartbeats 4000000 in
theorem commit_none (BB N : Nat) (v : Value) (w : World) (hv : ChsAt w BB v []) (hBB : BB ≤ w.heap.size) :
    Calls Tryz.prog 19 #[.pointer (some ⟨N, 0, none⟩), v] w fun e w' => e = .returned (.int .i64 0) ∧ Below w.heap.size w w' := by
  have hpr := print_any BB v [] w hv hBB (by simp) (by simp [printL])
  rw [printV_fit (fun c hc => by cases hc)] at hpr
  obtain ⟨ao, cap, rfl, _⟩ := hv
  simp only [List.length_nil] at hpr ⊢
  go_enter Tryz.func19, Tryz.ntmps19
  go_wp2_with (go_at_call 8; with_reducible refine hpr.mono ?_; rintro e w2 ⟨rfl, hb2⟩)
  --@n
  go_ret
  exact ⟨rfl, hb2⟩

set_option maxRecDepth 100000 in
set_option maxHeartbeats 4000000 in
theorem get_any (B N Nd g m n : Nat) (cs : Array Value) (st : StP) (d : Dk) (ps : List PairP) (w : World) (h : StoreAt w B N Nd g m n cs st d ps) (k : KeyP) (hk : k.length ≤ 1000000) :
    Calls Tryz.prog 20 #[.pointer (some ⟨N, 0, none⟩), .string (textQ k)] w fun e w' => e = .returned (.tuple #[.string (textQ ((findP ps k).getD [])), .bool (findP ps k).isSome]) ∧ Below w.heap.size w w' := by
  have c7 := h.held.cell 7
  rw [h.ok.c7] at c7
  obtain ⟨kt, hkt⟩ : ∃ kt, textQ k = kt := ⟨_, rfl⟩
  have hlook := (h.map.look k kt hkt (by rw [← hkt]; exact hk)).2
  obtain ⟨V, hV⟩ : ∃ V, textQ ((findP ps k).getD []) = V := ⟨_, rfl⟩
  obtain ⟨b, hb⟩ : ∃ b, (findP ps k).isSome = b := ⟨_, rfl⟩
  rw [hV, hb] at hlook ⊢
  rw [hkt]
  have hbe : Below w.heap.size w (w.alloc (.cells #[.string V] 115)) := (Below.refl _ w).alloc (Nat.le_refl _) _
  have Hbe := Lib.hid hbe
  clear h hbe hV hb hkt
  go_enter Tryz.func20, Tryz.ntmps20
  go_wp2
  --@g
  go_ret2
  exact ⟨rfl, Hbe.out⟩
end Go.Proofs.YtcjmpkfcjcoobaaGreat
namespace Go.Proofs.YtcjmpkfcjcoobaaGreat
open Go.RowKit Go.Maps

theorem makeMapW (w : World) : (Instr.makeMap 87 none).run Tryz.prog w = .ok (.map (some w.heap.size)) (w.alloc (.map #[] 0)) := by kernel_rfl

theorem zero_size : Tryz.zeroCells102.size = 84 := by kernel_rfl
theorem zero_words : Tryz.zeroCells102.toList.drop 12 = List.replicate 72 (.int .u32 0) := by kernel_rfl
theorem blank_cells (Nd fr ct m : Nat) : CellsOk ((((Tryz.zeroCells102.setIfInBounds 0 (.pointer (some ⟨Nd, 0, none⟩))).setIfInBounds 1 (.int .i64 (fr : Int))).setIfInBounds 2 (.int .i64 ((ct : Int) / 2))).setIfInBounds 7 (.map (some m))) Nd m ⟨fr, ct / 2, ⟨0, 0, 0, 0⟩, false⟩ := by
  have hz := zero_size
  have ho : ∀ j, j ≠ 0 → j ≠ 1 → j ≠ 2 → j ≠ 7 → ((((Tryz.zeroCells102.setIfInBounds 0 (.pointer (some ⟨Nd, 0, none⟩))).setIfInBounds 1 (.int .i64 (fr : Int))).setIfInBounds 2 (.int .i64 ((ct : Int) / 2))).setIfInBounds 7 (.map (some m)))[j]? = Tryz.zeroCells102[j]? := fun j h0 h1 h2 h7 => by
    rw [Array.getElem?_setIfInBounds_ne (Ne.symm h7), Array.getElem?_setIfInBounds_ne (Ne.symm h2), Array.getElem?_setIfInBounds_ne (Ne.symm h1), Array.getElem?_setIfInBounds_ne (Ne.symm h0)]
  refine ⟨?_, ?_, ?_, (ho 3 (by decide) (by decide) (by decide) (by decide)).trans (by kernel_rfl), (ho 4 (by decide) (by decide) (by decide) (by decide)).trans (by kernel_rfl), (ho 5 (by decide) (by decide) (by decide) (by decide)).trans (by kernel_rfl), (ho 6 (by decide) (by decide) (by decide) (by decide)).trans (by kernel_rfl), ?_, (ho 8 (by decide) (by decide) (by decide) (by decide)).trans (by kernel_rfl),
    ⟨by simp [hz], (ho 10 (by decide) (by decide) (by decide) (by decide)).trans (by kernel_rfl), fun j hj => ⟨0, ?_⟩, .inl ((ho 9 (by decide) (by decide) (by decide) (by decide)).trans (by kernel_rfl))⟩⟩
  · rw [Array.getElem?_setIfInBounds_ne (by decide), Array.getElem?_setIfInBounds_ne (by decide), Array.getElem?_setIfInBounds_ne (by decide), set_get9 _ _ _ _ (by omega), if_pos rfl]
  · rw [Array.getElem?_setIfInBounds_ne (by decide), Array.getElem?_setIfInBounds_ne (by decide), set_get9 _ _ _ _ (by simp), if_pos rfl]
  · rw [Array.getElem?_setIfInBounds_ne (by decide), set_get9 _ _ _ _ (by simp), if_pos rfl]
    push_cast
    rfl
  · rw [set_get9 _ _ _ _ (by simp), if_pos rfl]
  · rw [ho (12 + j) (by omega) (by omega) (by omega) (by omega), ← Array.getElem?_toList, ← List.getElem?_drop, zero_words, List.getElem?_replicate, if_pos hj]

set_option maxRecDepth 100000 in
set_option maxHeartbeats 8000000 in
theorem blank_any (B Nd g : Nat) (d : Dk) (w : World) (hd : DiskAt w B Nd g d) (fr ct : Nat) (h4 : 4 ≤ ct) (h2 : ct % 2 = 0) (hfit : fr + ct ≤ d.ss.length) :
    Calls Tryz.prog 35 #[.pointer (some ⟨Nd, 0, none⟩), .int .i64 (fr : Int), .int .i64 (ct : Int)] w fun e w' => ∃ N m cs, e = .returned (.tuple #[.pointer (some ⟨N, 0, none⟩), .int .i64 0]) ∧
      StoreAt w' B N Nd g m 0 cs ⟨fr, ct / 2, ⟨0, 0, 0, 0⟩, false⟩ d [] ∧ w.heap.size ≤ N ∧ w.heap.size ≤ m ∧ Below w.heap.size w w' := by
  have hfew := hd.few
  have hlt := hd.ltN
  have hsz := size_any B Nd g d w hd
  obtain ⟨z, hz⟩ : ∃ z, d.ss.length = z := ⟨_, rfl⟩
  rw [hz] at hfit hfew hsz
  have g1 : ¬ ((fr : Int) < 0) := by omega
  have g2 : ¬ ((ct : Int) < 4) := by omega
  have g4 : ¬ ((z : Int) - (ct : Int) < (fr : Int)) := by omega
  have hmm := makeMapW
  have Hd := Lib.hid hd
  clear hd hz
  go_enter Tryz.func35, Tryz.ntmps35
  go_wp2_with (go_at_call 53; refine hsz.mono ?_; rintro e w2 ⟨rfl, rfl⟩)
  --@a
  go_ret2
  have hdd := Hd.out
  have hb1 : Below w2.heap.size w2 (w2.alloc (.map #[] 0)) := (Below.refl _ w2).alloc (Nat.le_refl _) _
  have hm1 : MapP (w2.alloc (.map #[] 0)) w2.heap.size 0 [] := ⟨List.Pairwise.nil, .map [], World.ownsMap_made w2 _ _ _, fun k => ⟨fun _ => rfl, fun v e => (by cases e)⟩⟩
  obtain ⟨cs, hcs⟩ : ∃ cs, ((((Tryz.zeroCells102.setIfInBounds 0 (.pointer (some ⟨Nd, 0, none⟩))).setIfInBounds 1 (.int .i64 (fr : Int))).setIfInBounds 2 (.int .i64 ((ct : Int) / 2))).setIfInBounds 7 (.map (some w2.heap.size))) = cs := ⟨_, rfl⟩
  have hok : CellsOk cs Nd w2.heap.size ⟨fr, ct / 2, ⟨0, 0, 0, 0⟩, false⟩ := by rw [← hcs]; exact blank_cells Nd fr ct w2.heap.size
  rw [hcs]
  have hb2 := hb1.alloc (by simp) (.cells cs 102)
  have ha : Below (w2.heap.size + 1) (w2.alloc (.map #[] 0)) ((w2.alloc (.map #[] 0)).alloc (.cells cs 102)) := by
    have := (Below.refl _ (w2.alloc (.map #[] 0))).alloc (Nat.le_refl _) (.cells cs 102)
    simpa using this
  have hh : Held9 ((w2.alloc (.map #[] 0)).alloc (.cells cs 102)) (w2.heap.size + 1) cs 102 := by
    have := heap_alloc_new (w2.alloc (.map #[] 0)) (.cells cs 102)
    unfold Held9
    simpa using this
  exact ⟨w2.heap.size + 1, w2.heap.size, cs, rfl, ⟨hh, hok, hdd.below hb2, hm1.below (by simpa using ha), fun b hb e => by have := (hdd.blocks b hb).2; omega⟩, by omega, Nat.le_refl _, hb2⟩
/-- A store that is gone over into from the other half. -/
theorem CellsOk.setHalf {cs : Array Value} {Nd m : Nat} {st : StP} (h : CellsOk cs Nd m st) (k : Nat) : CellsOk (cs.setIfInBounds 3 (.int .i64 (k : Int))) Nd m ⟨st.fr, st.sz, ⟨k, st.pl.at_, st.pl.gen, st.pl.num⟩, st.lost⟩ := by
  have hz : 8 < cs.size := (Array.getElem?_eq_some_iff.1 h.c8).1
  have ho : ∀ j, j ≠ 3 → (cs.setIfInBounds 3 (.int .i64 (k : Int)))[j]? = cs[j]? := fun j hj => by rw [set_get9 _ _ _ _ (by omega), if_neg hj]
  exact ⟨(ho 0 (by decide)).trans h.c0, (ho 1 (by decide)).trans h.c1, (ho 2 (by decide)).trans h.c2, by rw [set_get9 _ _ _ _ (by omega), if_pos rfl], (ho 4 (by decide)).trans h.c4, (ho 5 (by decide)).trans h.c5, (ho 6 (by decide)).trans h.c6,
    (ho 7 (by decide)).trans h.c7, (ho 8 (by decide)).trans h.c8, h.once.of (by simp) fun j hj => ho j (by omega)⟩
def makeD (d : Dk) (fr h : Nat) : Dk × Int := if sayD d ((fr + 1 * h + 0 : Nat) : Int) [] = 0 then overD (writeD d ((fr + 1 * h + 0 : Nat) : Int) []) ⟨fr, h, ⟨1, 0, 0, 0⟩, false⟩ [] else (writeD d ((fr + 1 * h + 0 : Nat) : Int) [], sayD d ((fr + 1 * h + 0 : Nat) : Int) [])

set_option maxRecDepth 100000 in
set_option maxHeartbeats 8000000 in
theorem make_any (B Nd g : Nat) (d : Dk) (w : World) (hd : DiskAt w B Nd g d) (hB : B ≤ w.heap.size) (hwr : d.wr ≤ 300000) (fr ct : Nat) (h4 : 4 ≤ ct) (h2 : ct % 2 = 0) (hfit : fr + ct ≤ d.ss.length) :
    Calls Tryz.prog 15 #[.pointer (some ⟨Nd, 0, none⟩), .int .i64 (fr : Int), .int .i64 (ct : Int)] w fun e w' => ∃ d' code, makeD d fr (ct / 2) = (d', code) ∧
      ((code = 0 ∧ ∃ N m cs, e = .returned (.tuple #[.pointer (some ⟨N, 0, none⟩), .int .i64 0]) ∧ StoreAt w' B N Nd g m 0 cs (layS ⟨fr, ct / 2, ⟨1, 0, 0, 0⟩, false⟩ (overP ⟨1, 0, 0, 0⟩) (sizeP []) 0) d' [] ∧ w.heap.size ≤ N ∧ w.heap.size ≤ m) ∨
        (code ≠ 0 ∧ e = .returned (.tuple #[.pointer none, .int .i64 code]) ∧ DiskAt w' B Nd g d')) ∧ Turned (mineD Nd g) w w' := by
  have hfew := hd.few
  have hbl := blank_any B Nd g d w hd fr ct h4 h2 hfit
  obtain ⟨hh, hhh⟩ : ∃ hh, ct / 2 = hh := ⟨_, rfl⟩
  have hhs : hh ≤ 4096 := by omega
  rw [hhh] at hbl ⊢
  obtain ⟨p0, hp0⟩ : ∃ p0 : Nat, fr + 1 * hh + 0 = p0 := ⟨_, rfl⟩
  obtain ⟨c1, hc1⟩ : ∃ c1, sayD d (p0 : Int) [] = c1 := ⟨_, rfl⟩
  obtain ⟨d1, hd1⟩ : ∃ d1, writeD d (p0 : Int) [] = d1 := ⟨_, rfl⟩
  have hd1w : d1.wr ≤ 400000 := by
    have := write_wr d (p0 : Int) []
    rw [hd1] at this
    omega
  have Hmk : Hid (makeD d fr hh = if c1 = 0 then overD d1 ⟨fr, hh, ⟨1, 0, 0, 0⟩, false⟩ [] else (d1, c1)) := Lib.hid (by
    unfold makeD
    rw [hp0, hc1, hd1])
  have hwri : Hid (∀ (N m : Nat) (cs : Array Value) (w3 : World), StoreAt w3 B N Nd g m 0 cs ⟨fr, hh, ⟨1, 0, 0, 0⟩, false⟩ d [] → w.heap.size ≤ w3.heap.size → Calls Tryz.prog 36 #[.pointer (some ⟨N, 0, none⟩), .int .i64 1, .int .i64 0, .string ⟨#[]⟩] w3 fun e w' =>
      e = .returned (.int .i64 c1) ∧ StoreAt w' B N Nd g m 0 cs ⟨fr, hh, ⟨1, 0, 0, 0⟩, false⟩ d1 [] ∧ Turned (mineD Nd g) w3 w') := Lib.hid fun N m cs w3 h hz => by
    refine (h.write (by omega) (by omega) rfl 1 0 (by show fr ≤ _; omega) (by show hh ≤ _; omega) (by omega) (by omega) ⟨#[]⟩ (by decide)).mono ?_
    rintro e w' ⟨h1, h2, h3⟩
    simp only at h1 h2
    rw [hp0] at h1 h2
    rw [hc1] at h1
    rw [hd1] at h2
    exact ⟨h1, h2, h3⟩
  have hovr : Hid (∀ (N m : Nat) (cs : Array Value) (w4 : World), StoreAt w4 B N Nd g m 0 cs ⟨fr, hh, ⟨1, 0, 0, 0⟩, false⟩ d1 [] → w.heap.size ≤ w4.heap.size → Calls Tryz.prog 37 #[.pointer (some ⟨N, 0, none⟩), .slice none 0 0] w4 fun e w' =>
      ∃ d' code cs' m', e = .returned (.int .i64 code) ∧ overD d1 ⟨fr, hh, ⟨1, 0, 0, 0⟩, false⟩ [] = (d', code) ∧ StoreAt w' B N Nd g m' 0 cs' (layS ⟨fr, hh, ⟨1, 0, 0, 0⟩, false⟩ (overP ⟨1, 0, 0, 0⟩) (sizeP []) code) d' [] ∧ Turned (fun b => b = N ∨ mineD Nd g b) w4 w' ∧ (m' = m ∨ w4.heap.size ≤ m')) := Lib.hid fun N m cs w4 h hz => by
    refine (over_any B 0 N Nd g m 0 cs _ d1 [] w4 h (by omega) (by omega) rfl (by show fr ≤ _; omega) (by show hh ≤ _; omega) (by show 1 ≤ 1; omega) (by show 0 < _; omega) (fun p hp => by cases hp) (.slice none 0 0) [] ⟨none, 0, rfl, by simp, by decide, fun i hi => absurd hi (Nat.not_lt_zero i)⟩ (Nat.zero_le _) (by simp) (by omega) (fun c hc => by cases hc) (by show sizeP [] ≤ _; decide)).mono ?_
    rintro e w' ⟨d', code, cs', m', h1, h2, h3, h4, h5⟩
    refine ⟨d', code, cs', m', h1, h2, ?_, h4, h5⟩
    have h6 := h3
    rw [behind_nil, ite_self] at h6
    exact h6
  clear hp0 hc1 hd1 hhh hd
  go_enter Tryz.func15, Tryz.ntmps15
  --@a
  go_wp2_with (first
    | (go_at_call 35; refine hbl.mono ?_; rintro e w2 ⟨N, m, cs, rfl, hst2, hN2, hm2, hb2⟩; have n3 := hst2.held.cell 3; rw [hst2.ok.c3] at n3; have f3 := hst2.held.frozen 3; have tN : Turned (fun b => b = N) w2 (w2.setCell ⟨N, 3, none⟩ (.int .i64 1)) := Turned.set rfl; have hz2 := hb2.size; have hst3 : StoreAt (w2.setCell ⟨N, 3, none⟩ (.int .i64 1)) B N Nd g m 0 (cs.setIfInBounds 3 (.int .i64 1)) ⟨fr, hh, ⟨1, 0, 0, 0⟩, false⟩ d [] := ⟨hst2.held.set 3 _, hst2.ok.setHalf 1, hst2.disk.keep tN (fun b hb e => hst2.apart b hb e), hst2.map.keep tN hst2.mN, hst2.apart⟩; have hw3 := hwri.out N m _ _ hst3 (by simp; omega); have Hs2 := Lib.hid (And.intro hb2 (And.intro tN (And.intro hst2 (And.intro hN2 hm2)))); clear hst2 hb2 tN hst3)
    | (go_at_call 36; with_reducible refine hw3.mono ?_; rintro e w4 ⟨rfl, hst4, ht4⟩; have ho4 := hovr.out N m _ _ hst4 (by have := ht4.size; simp at this; omega); have Hs4 := Lib.hid (And.intro hst4 ht4); clear hst4 ht4 hw3)
    | (go_at_call 37; with_reducible refine ho4.mono ?_; rintro e w5 ⟨d5, code, cs5, m5, rfl, hrun, hst5, ht5, hm5⟩; have Hs5 := Lib.hid (And.intro hrun (And.intro hst5 (And.intro ht5 hm5))); clear hrun hst5 ht5 hm5 ho4))
  --@b
  · rename_i hcn
    have hc : c1 ≠ 0 := by simpa using hcn
    obtain ⟨hb2, tN, hst2, hN2, hm2⟩ := Hs2.out
    obtain ⟨hst4, ht4⟩ := Hs4.out
    have ta : Turned (mineD Nd g) w w4 := ((Turned.of_below hb2 (Nat.le_refl _)).trans tN fun b e => .inr (by omega)).trans ht4 fun _ h => .inl h
    have hz4 := ta.size
    clear hbl
    go_ret2
    exact ⟨d1, c1, by rw [Hmk.out, if_neg hc], .inr ⟨hc, rfl, hst4.disk⟩, ta⟩
  · rename_i hcn
    have hc : code ≠ 0 := by simpa using hcn
    obtain ⟨hb2, tN, hst2, hN2, hm2⟩ := Hs2.out
    obtain ⟨hst4, ht4⟩ := Hs4.out
    have ta : Turned (mineD Nd g) w w4 := ((Turned.of_below hb2 (Nat.le_refl _)).trans tN fun b e => .inr (by omega)).trans ht4 fun _ h => .inl h
    have hz4 := ta.size
    have hc8 : c1 = 0 := by simpa using ‹(c1 != 0) = false›
    obtain ⟨hrun, hst5, ht5, hm5⟩ := Hs5.out
    have tb : Turned (mineD Nd g) w w5 := ta.trans ht5 fun b h => h.elim (fun e => .inr (by omega)) .inl
    clear hbl
    go_ret2
    exact ⟨d5, code, by rw [Hmk.out, if_pos hc8, hrun], .inr ⟨hc, rfl, hst5.disk⟩, tb⟩
  · rename_i hcn
    have hc : code = 0 := by simpa using hcn
    obtain ⟨hb2, tN, hst2, hN2, hm2⟩ := Hs2.out
    obtain ⟨hst4, ht4⟩ := Hs4.out
    have ta : Turned (mineD Nd g) w w4 := ((Turned.of_below hb2 (Nat.le_refl _)).trans tN fun b e => .inr (by omega)).trans ht4 fun _ h => .inl h
    have hz4 := ta.size
    have hc8 : c1 = 0 := by simpa using ‹(c1 != 0) = false›
    obtain ⟨hrun, hst5, ht5, hm5⟩ := Hs5.out
    have tb : Turned (mineD Nd g) w w5 := ta.trans ht5 fun b h => h.elim (fun e => .inr (by omega)) .inl
    subst hc
    clear hbl
    go_ret2
    exact ⟨d5, 0, by rw [Hmk.out, if_pos hc8, hrun], .inl ⟨rfl, N, m5, cs5, rfl, hst5, hN2, hm5.elim (fun e => by omega) fun h => by omega⟩, tb⟩
end Go.Proofs.YtcjmpkfcjcoobaaGreat
