/-
  The document's Take, Give and New, told by the plain book.
-/
import Derived.Test.YtihbfkiofdancaaQuM
namespace Go.Proofs.Ytihbfkiofdancaa
open Go.RowKit Go.Maps

theorem two_now {w : World} {db g i t : Nat} {x y z : Value} (h : w.heap[db]? = some (.cells #[x, y] t (0, 0))) (h2 : w.cell? ⟨g, i, none⟩ = some z) : w.cell? ⟨db, 0, none⟩ = some x ∧ w.cell? ⟨db, 1, none⟩ = some y ∧ w.cell? ⟨g, i, none⟩ = some z :=
  ⟨(cells_two h).1, (cells_two h).2.1, h2⟩
theorem two_kept {w : World} {db rb g i t : Nat} {x y z : Value} (h : w.heap[db]? = some (.cells #[x, y] t (0, 0))) (h2 : w.cell? ⟨g, i, none⟩ = some z) (n0 : ¬ db = rb) (n1 : ¬ g = rb) (v1 v2 : Value) :
    ((w.setCell ⟨rb, 0, none⟩ v1).setCell ⟨rb, 1, none⟩ v2).cell? ⟨db, 0, none⟩ = some x ∧ ((w.setCell ⟨rb, 0, none⟩ v1).setCell ⟨rb, 1, none⟩ v2).cell? ⟨db, 1, none⟩ = some y ∧ ((w.setCell ⟨rb, 0, none⟩ v1).setCell ⟨rb, 1, none⟩ v2).cell? ⟨g, i, none⟩ = some z := by
  have e : ∀ b j, ¬ b = rb → ((w.setCell ⟨rb, 0, none⟩ v1).setCell ⟨rb, 1, none⟩ v2).cell? ⟨b, j, none⟩ = w.cell? ⟨b, j, none⟩ := fun b j hb => by
    rw [World.cell?_setCell_far _ _ _ _ (by show rb ≠ b; exact fun e => hb e.symm), World.cell?_setCell_far _ _ _ _ (by show rb ≠ b; exact fun e => hb e.symm)]
  rw [e db 0 n0, e db 1 n0, e g i n1]
  exact two_now h h2

set_option maxRecDepth 100000 in
set_option maxHeartbeats 4000000 in
theorem mtake_any (B : Nat) (v : Value) (n : Nat) (bo ta : Nat → Int) (w : World) (h : RefB w B v n bo ta) (hB : B ≤ w.heap.size) (hn1 : 1 ≤ n) (hn16 : n ≤ 16) (hok : ∀ i, i < n → 0 ≤ ta i ∧ ta i ≤ bo i ∧ bo i ≤ 1099511627776) (l m : Int) :
    Calls Try.prog 11 #[v, .int .i64 l, .int .i64 m] w fun e w' => ∃ v', e = .returned (.tuple #[v', .int .i64 (takeQ n bo ta l m)]) ∧ RefB w' B v' n bo (nextQ ta (takeQ n bo ta l m) l m) ∧ Below w.heap.size w w' := by
  have HR := Lib.hid h
  obtain ⟨vb, vt, rfl, hb, ht⟩ := h
  obtain ⟨gb, cb, rfl, hBb, hgb, hnb, hcmb, hcb, _⟩ := own_sliceQ hb (by omega)
  obtain ⟨g, cap, rfl, hBg, hg, hnc, hcm, hc, _⟩ := own_sliceQ ht (by omega)
  unfold maxLen at hcm hcmb
  clear hb ht
  by_cases hl0 : l < 0
  · rw [show takeQ n bo ta l m = 4 by unfold takeQ checkQ hasQ; rw [decide_eq_false (by omega)]; rfl]
    rw [show nextQ ta 4 l m = ta from rfl]
    clear hc hcb hok
    go_enter Try.func11, Try.ntmps11
    go_wp2
    exact bodyPost_ret (v := .tuple #[.agg #[.slice (some ⟨gb, 0, none⟩) n cb, .slice (some ⟨g, 0, none⟩) n cap], .int .i64 4]) (by simp [results, Try.results11, go_sem]) rfl ⟨_, rfl, HR.out.below (((Below.refl _ w).alloc (Nat.le_refl _) _).alloc (by simp) _), ((Below.refl _ w).alloc (Nat.le_refl _) _).alloc (by simp) _⟩
  by_cases hl1 : (n : Int) ≤ l
  · rw [show takeQ n bo ta l m = 4 by unfold takeQ checkQ hasQ; rw [decide_eq_false (by omega)]; rfl]
    rw [show nextQ ta 4 l m = ta from rfl]
    clear hc hcb hok
    go_enter Try.func11, Try.ntmps11
    go_wp2
    exact bodyPost_ret (v := .tuple #[.agg #[.slice (some ⟨gb, 0, none⟩) n cb, .slice (some ⟨g, 0, none⟩) n cap], .int .i64 4]) (by simp [results, Try.results11, go_sem]) rfl ⟨_, rfl, HR.out.below (((Below.refl _ w).alloc (Nat.le_refl _) _).alloc (by simp) _), ((Below.refl _ w).alloc (Nat.le_refl _) _).alloc (by simp) _⟩
  obtain ⟨i, rfl⟩ : ∃ i : Nat, l = i := ⟨l.toNat, by omega⟩
  have hi : i < n := by omega
  rw [take_in hi]
  by_cases hm : m < 0
  · rw [if_pos hm]
    rw [show nextQ ta 1 (i : Int) m = ta from rfl]
    clear hc hcb hok
    go_enter Try.func11, Try.ntmps11
    go_wp2
    exact bodyPost_ret (v := .tuple #[.agg #[.slice (some ⟨gb, 0, none⟩) n cb, .slice (some ⟨g, 0, none⟩) n cap], .int .i64 1]) (by simp [results, Try.results11, go_sem]) rfl ⟨_, rfl, HR.out.below (((Below.refl _ w).alloc (Nat.le_refl _) _).alloc (by simp) _), ((Below.refl _ w).alloc (Nat.le_refl _) _).alloc (by simp) _⟩
  rw [if_neg hm]
  have hci := hc i hi
  have hbi := hcb i hi
  obtain ⟨o1, o2, o3⟩ := hok i hi
  by_cases hq : m ≤ bo i - ta i
  · rw [if_pos hq]
    have hwith : ∀ W, Below w.heap.size w W → Calls Try.prog 20 #[.agg #[.slice (some ⟨gb, 0, none⟩) n cb, .slice (some ⟨g, 0, none⟩) n cap], .int .i64 (i : Int), .int .i64 (ta i + m)] W fun e w' => ∃ a1 c1 a2 c2, e = .returned (.agg #[.slice a1 n c1, .slice a2 n c2]) ∧ RefB w' B (.agg #[.slice a1 n c1, .slice a2 n c2]) n bo (fun j => if j = i then ta i + m else ta j) ∧ Below W.heap.size W w' := fun W hW =>
      (mwith_any B _ n bo ta W (HR.out.below hW) (Nat.le_trans hB hW.size) hn16 i hi _).mono fun _ _ ⟨v', he, hr, hb'⟩ => by
        obtain ⟨v1, v2, rfl, q1, q2⟩ := hr
        obtain ⟨a1, c1, rfl⟩ := row_slice q1
        obtain ⟨a2, c2, rfl⟩ := row_slice q2
        exact ⟨a1, c1, a2, c2, he, ⟨_, _, rfl, q1, q2⟩, hb'⟩
    have hnx : nextQ ta 0 (i : Int) m = fun j => if j = i then ta i + m else ta j := by
      unfold nextQ moreQ
      rw [if_pos rfl, Int.toNat_natCast]

    rw [hnx]
    generalize (fun j => if j = i then ta i + m else ta j) = ta' at hwith ⊢
    have Hw := Lib.hid hwith
    clear hwith hnx hc hcb hok
    generalize ta i = t at *
    generalize bo i = b0 at *
    go_enter Try.func11, Try.ntmps11
    go_upto_region 5 with fail
    have hb1 : Below w.heap.size w ((w.alloc (.cells #[.slice (some ⟨gb, 0, none⟩) n cb, .slice (some ⟨g, 0, none⟩) n cap] 30)).alloc (.cells #[.slice none 0 0, .slice none 0 0] 30)) := ((Below.refl _ w).alloc (Nat.le_refl _) _).alloc (by simp) _
    have hd2 : ((w.alloc (.cells #[.slice (some ⟨gb, 0, none⟩) n cb, .slice (some ⟨g, 0, none⟩) n cap] 30)).alloc (.cells #[.slice none 0 0, .slice none 0 0] 30)).heap[w.heap.size]? = some (.cells #[.slice (some ⟨gb, 0, none⟩) n cb, .slice (some ⟨g, 0, none⟩) n cap] 30 (0, 0)) := by
      rw [heap_alloc_old _ _ (by simp)]
      exact heap_alloc_new w _
    have hr2 : ((w.alloc (.cells #[.slice (some ⟨gb, 0, none⟩) n cb, .slice (some ⟨g, 0, none⟩) n cap] 30)).alloc (.cells #[.slice none 0 0, .slice none 0 0] 30)).heap[w.heap.size + 1]? = some (.cells #[.slice none 0 0, .slice none 0 0] 30 (0, 0)) := by
      have := heap_alloc_new (w.alloc (.cells #[.slice (some ⟨gb, 0, none⟩) n cb, .slice (some ⟨g, 0, none⟩) n cap] 30)) (.cells #[.slice none 0 0, .slice none 0 0] 30)
      simpa using this
    have hgw := (hb1.cell (p := ⟨g, i, none⟩) hg).trans hci
    have hgw2 := (hb1.cell (p := ⟨gb, i, none⟩) hgb).trans hbi
    generalize (w.alloc (.cells #[.slice (some ⟨gb, 0, none⟩) n cb, .slice (some ⟨g, 0, none⟩) n cap] 30)).alloc (.cells #[.slice none 0 0, .slice none 0 0] 30) = w2 at hb1 hd2 hr2 hgw hgw2 ⊢
    clear hci hbi
    have hdl : w.heap.size < w2.heap.size := (Array.getElem?_eq_some_iff.1 hd2).1
    have hrl : w.heap.size + 1 < w2.heap.size := (Array.getElem?_eq_some_iff.1 hr2).1
    obtain ⟨z0, z1, zf⟩ := cells_two hd2
    go_quiet (fail)
    go_upto_region 7 with fail
    replace hb1 := below_drewN hb1 nq
    replace hgw : (w2.drewN nq).cell? ⟨g, i, none⟩ = some (.int .i64 t) := hgw
    have hd3 : (w2.drewN nq).heap[w.heap.size]? = some (.cells #[.slice (some ⟨gb, 0, none⟩) n cb, .slice (some ⟨g, 0, none⟩) n cap] 30 (0, 0)) := hd2
    have hr3 : (w2.drewN nq).heap[w.heap.size + 1]? = some (.cells #[.slice none 0 0, .slice none 0 0] 30 (0, 0)) := hr2
    replace hdl : w.heap.size < (w2.drewN nq).heap.size := hdl
    replace hrl : w.heap.size + 1 < (w2.drewN nq).heap.size := hrl
    clear hgw2 z0 z1 zf hd2 hr2
    have hd2 := hd3
    have hr2 := hr3
    clear hd3 hr3
    generalize w2.drewN nq = w3 at hb1 hgw hd2 hr2 hdl hrl ⊢
    clear w2
    obtain ⟨z0, z1, zf⟩ := cells_two hd2
    have Hd2 := Lib.hid hd2
    have Hr2 := Lib.hid hr2
    have Hb1 := Lib.hid hb1
    clear hd2 hr2 hb1
    have i0 : (0 : Int) ≤ (i : Int) := by omega
    have i1 : (i : Int) < (n : Int) := by omega
    have m0 : 0 ≤ m := by omega
    have m1 : 0 ≤ t + m := by omega
    have m2 : t + m ≤ 1099511627776 := by omega
    have hwr : IntKind.i64.wrap (t + m) = t + m := IntWalk.i64_in _ (by omega)
    clear hl0 hl1 hm m1 m2
    have hne0 : ¬ w.heap.size = w.heap.size + 1 := by omega
    have hne1 : ¬ g = w.heap.size + 1 := by omega
    have hgl : g < w3.heap.size := by omega
    have k8 := two_now (w := w3.drew) Hd2.out hgw
    go_region_held3 (fun W => W.cell? ⟨w.heap.size, 0, none⟩ = some (.slice (some ⟨gb, 0, none⟩) n cb) ∧ W.cell? ⟨w.heap.size, 1, none⟩ = some (.slice (some ⟨g, 0, none⟩) n cap) ∧ W.cell? ⟨g, i, none⟩ = some (.int .i64 t)) (first | with_reducible exact k8 | with_reducible exact k9 | with_reducible exact k10 _ _) (first | (go_at_call 20; refine (Hw.out w3.drew (show Below w.heap.size w w3.drew from below_drewN Hb1.out 1)).mono ?_; rintro e w9 ⟨a1, c1, a2, c2, rfl, hr9, hb8⟩; have hb9 : Below w3.heap.size w3 w9 := (below_drewN (Below.refl _ w3) 1).trans hb8; have hr0 := (hb9.block _ hrl).trans Hr2.out; have hd0 := (hb9.block _ hdl).trans Hd2.out; have hg0 := (hb9.cell (p := ⟨g, i, none⟩) hgl).trans hgw; obtain ⟨x0, x1, xf⟩ := cells_two hr0; have k9 := two_now hd0 hg0; have k10 := two_kept hd0 hg0 hne0 hne1; have Hr0 := Lib.hid hr0; have Hr9 := Lib.hid hr9; have Hb9 := Lib.hid hb9; clear hr9 hb8 hb9 hr0 hd0 hg0))
    obtain ⟨_, _, hrr, o1, o2⟩ := Hr9.out
    cases hrr
    have t6 : Turned (fun b => b = w.heap.size + 1) w9 ((w9.setCell ⟨w.heap.size + 1, 0, none⟩ (.slice a1 n c1)).setCell ⟨w.heap.size + 1, 1, none⟩ (.slice a2 n c2)) := (Turned.set (S := fun b => b = w.heap.size + 1) rfl).trans (Turned.set (S := fun b => b = w.heap.size + 1) rfl) (fun b hb => .inl hb)
    have b6 : Below w.heap.size w ((w9.setCell ⟨w.heap.size + 1, 0, none⟩ (.slice a1 n c1)).setCell ⟨w.heap.size + 1, 1, none⟩ (.slice a2 n c2)) := ((Hb1.out.trans (Hb9.out.mono (by omega))).setCell (p := ⟨w.heap.size + 1, 0, none⟩) (by show w.heap.size ≤ w.heap.size + 1; omega) _).setCell (p := ⟨w.heap.size + 1, 1, none⟩) (by show w.heap.size ≤ w.heap.size + 1; omega) _
    have o3 := t6.row o1 (fun b hb e => by
      subst e
      obtain ⟨_, cur, hcur⟩ := row_block o1 hb
      rw [Hr0.out] at hcur
      simp at hcur)
    have o4 := t6.row o2 (fun b hb e => by
      subst e
      obtain ⟨_, cur, hcur⟩ := row_block o2 hb
      rw [Hr0.out] at hcur
      simp at hcur)
    have HH := Lib.hid (And.intro o3 (And.intro o4 b6))
    rename_i hHeld
    clear o1 o2 o3 o4 b6 t6 k9 k10 hHeld Hr9 Hr0 Hb9 k8
    go_wp2
    exact bodyPost_ret (v := .tuple #[.agg #[.slice a1 n c1, .slice a2 n c2], .int .i64 0]) (by simp [results, Try.results11, go_sem, x0, x1]) rfl ⟨_, rfl, ⟨_, _, rfl, HH.out.1, HH.out.2.1⟩, HH.out.2.2⟩
  · rw [if_neg hq]
    rw [show nextQ ta 5 (i : Int) m = ta from rfl]
    clear hc hcb hok
    generalize ta i = t at *
    generalize bo i = b0 at *
    have hq' : b0 - t < m := by omega
    clear hq
    go_enter Try.func11, Try.ntmps11
    go_wp2_with fail
    go_quiet (fail)
    have Hbx := Lib.hid (below_drewN (((Below.refl _ w).alloc (Nat.le_refl _) (.cells #[.slice (some ⟨gb, 0, none⟩) n cb, .slice (some ⟨g, 0, none⟩) n cap] 30)).alloc (by simp) (.cells #[.slice none 0 0, .slice none 0 0] 30)) nq)
    go_wp2
    exact bodyPost_ret (v := .tuple #[.agg #[.slice (some ⟨gb, 0, none⟩) n cb, .slice (some ⟨g, 0, none⟩) n cap], .int .i64 5]) (by simp [results, Try.results11, go_sem]) rfl ⟨_, rfl, HR.out.below ((Hbx.out.setCell (p := ⟨w.heap.size + 1, 0, none⟩) (by show w.heap.size ≤ w.heap.size + 1; omega) _).setCell (p := ⟨w.heap.size + 1, 1, none⟩) (by show w.heap.size ≤ w.heap.size + 1; omega) _), (Hbx.out.setCell (p := ⟨w.heap.size + 1, 0, none⟩) (by show w.heap.size ≤ w.heap.size + 1; omega) _).setCell (p := ⟨w.heap.size + 1, 1, none⟩) (by show w.heap.size ≤ w.heap.size + 1; omega) _⟩

set_option maxRecDepth 100000 in
set_option maxHeartbeats 4000000 in
theorem mgive_any (B : Nat) (v : Value) (n : Nat) (bo ta : Nat → Int) (w : World) (h : RefB w B v n bo ta) (hB : B ≤ w.heap.size) (hn1 : 1 ≤ n) (hn16 : n ≤ 16) (hok : ∀ i, i < n → 0 ≤ ta i ∧ ta i ≤ bo i ∧ bo i ≤ 1099511627776) (l m : Int) :
    Calls Try.prog 13 #[v, .int .i64 l, .int .i64 m] w fun e w' => ∃ v', e = .returned (.tuple #[v', .int .i64 (giveQ n ta l m)]) ∧ RefB w' B v' n bo (nextQ ta (giveQ n ta l m) l (-m)) ∧ Below w.heap.size w w' := by
  have HR := Lib.hid h
  obtain ⟨vb, vt, rfl, hb, ht⟩ := h
  obtain ⟨gb, cb, rfl, hBb, hgb, hnb, hcmb, hcb, _⟩ := own_sliceQ hb (by omega)
  obtain ⟨g, cap, rfl, hBg, hg, hnc, hcm, hc, _⟩ := own_sliceQ ht (by omega)
  unfold maxLen at hcm hcmb
  clear hb ht
  by_cases hl0 : l < 0
  · rw [show giveQ n ta l m = 4 by unfold giveQ checkQ hasQ; rw [decide_eq_false (by omega)]; rfl]
    rw [show nextQ ta 4 l (-m) = ta from rfl]
    clear hc hcb hok
    go_enter Try.func13, Try.ntmps13
    go_wp2
    exact bodyPost_ret (v := .tuple #[.agg #[.slice (some ⟨gb, 0, none⟩) n cb, .slice (some ⟨g, 0, none⟩) n cap], .int .i64 4]) (by simp [results, Try.results13, go_sem]) rfl ⟨_, rfl, HR.out.below (((Below.refl _ w).alloc (Nat.le_refl _) _).alloc (by simp) _), ((Below.refl _ w).alloc (Nat.le_refl _) _).alloc (by simp) _⟩
  by_cases hl1 : (n : Int) ≤ l
  · rw [show giveQ n ta l m = 4 by unfold giveQ checkQ hasQ; rw [decide_eq_false (by omega)]; rfl]
    rw [show nextQ ta 4 l (-m) = ta from rfl]
    clear hc hcb hok
    go_enter Try.func13, Try.ntmps13
    go_wp2
    exact bodyPost_ret (v := .tuple #[.agg #[.slice (some ⟨gb, 0, none⟩) n cb, .slice (some ⟨g, 0, none⟩) n cap], .int .i64 4]) (by simp [results, Try.results13, go_sem]) rfl ⟨_, rfl, HR.out.below (((Below.refl _ w).alloc (Nat.le_refl _) _).alloc (by simp) _), ((Below.refl _ w).alloc (Nat.le_refl _) _).alloc (by simp) _⟩
  obtain ⟨i, rfl⟩ : ∃ i : Nat, l = i := ⟨l.toNat, by omega⟩
  have hi : i < n := by omega
  rw [give_in hi]
  by_cases hm : m < 0
  · rw [if_pos hm]
    rw [show nextQ ta 1 (i : Int) (-m) = ta from rfl]
    clear hc hcb hok
    go_enter Try.func13, Try.ntmps13
    go_wp2
    exact bodyPost_ret (v := .tuple #[.agg #[.slice (some ⟨gb, 0, none⟩) n cb, .slice (some ⟨g, 0, none⟩) n cap], .int .i64 1]) (by simp [results, Try.results13, go_sem]) rfl ⟨_, rfl, HR.out.below (((Below.refl _ w).alloc (Nat.le_refl _) _).alloc (by simp) _), ((Below.refl _ w).alloc (Nat.le_refl _) _).alloc (by simp) _⟩
  rw [if_neg hm]
  have hci := hc i hi
  have hbi := hcb i hi
  obtain ⟨o1, o2, o3⟩ := hok i hi
  by_cases hq : m ≤ ta i
  · rw [if_pos hq]
    have hwith : ∀ W, Below w.heap.size w W → Calls Try.prog 20 #[.agg #[.slice (some ⟨gb, 0, none⟩) n cb, .slice (some ⟨g, 0, none⟩) n cap], .int .i64 (i : Int), .int .i64 (ta i - m)] W fun e w' => ∃ a1 c1 a2 c2, e = .returned (.agg #[.slice a1 n c1, .slice a2 n c2]) ∧ RefB w' B (.agg #[.slice a1 n c1, .slice a2 n c2]) n bo (fun j => if j = i then ta i - m else ta j) ∧ Below W.heap.size W w' := fun W hW =>
      (mwith_any B _ n bo ta W (HR.out.below hW) (Nat.le_trans hB hW.size) hn16 i hi _).mono fun _ _ ⟨v', he, hr, hb'⟩ => by
        obtain ⟨v1, v2, rfl, q1, q2⟩ := hr
        obtain ⟨a1, c1, rfl⟩ := row_slice q1
        obtain ⟨a2, c2, rfl⟩ := row_slice q2
        exact ⟨a1, c1, a2, c2, he, ⟨_, _, rfl, q1, q2⟩, hb'⟩
    have hnx : nextQ ta 0 (i : Int) (-m) = fun j => if j = i then ta i - m else ta j := by
      unfold nextQ moreQ
      rw [if_pos rfl, Int.toNat_natCast]
      rw [show ta i + -m = ta i - m by omega]
    rw [hnx]
    generalize (fun j => if j = i then ta i - m else ta j) = ta' at hwith ⊢
    have Hw := Lib.hid hwith
    clear hwith hnx hc hcb hok
    generalize ta i = t at *
    generalize bo i = b0 at *
    go_enter Try.func13, Try.ntmps13
    go_upto_region 5 with fail
    have hb1 : Below w.heap.size w ((w.alloc (.cells #[.slice (some ⟨gb, 0, none⟩) n cb, .slice (some ⟨g, 0, none⟩) n cap] 30)).alloc (.cells #[.slice none 0 0, .slice none 0 0] 30)) := ((Below.refl _ w).alloc (Nat.le_refl _) _).alloc (by simp) _
    have hd2 : ((w.alloc (.cells #[.slice (some ⟨gb, 0, none⟩) n cb, .slice (some ⟨g, 0, none⟩) n cap] 30)).alloc (.cells #[.slice none 0 0, .slice none 0 0] 30)).heap[w.heap.size]? = some (.cells #[.slice (some ⟨gb, 0, none⟩) n cb, .slice (some ⟨g, 0, none⟩) n cap] 30 (0, 0)) := by
      rw [heap_alloc_old _ _ (by simp)]
      exact heap_alloc_new w _
    have hr2 : ((w.alloc (.cells #[.slice (some ⟨gb, 0, none⟩) n cb, .slice (some ⟨g, 0, none⟩) n cap] 30)).alloc (.cells #[.slice none 0 0, .slice none 0 0] 30)).heap[w.heap.size + 1]? = some (.cells #[.slice none 0 0, .slice none 0 0] 30 (0, 0)) := by
      have := heap_alloc_new (w.alloc (.cells #[.slice (some ⟨gb, 0, none⟩) n cb, .slice (some ⟨g, 0, none⟩) n cap] 30)) (.cells #[.slice none 0 0, .slice none 0 0] 30)
      simpa using this
    have hgw := (hb1.cell (p := ⟨g, i, none⟩) hg).trans hci
    have hgw2 := (hb1.cell (p := ⟨gb, i, none⟩) hgb).trans hbi
    generalize (w.alloc (.cells #[.slice (some ⟨gb, 0, none⟩) n cb, .slice (some ⟨g, 0, none⟩) n cap] 30)).alloc (.cells #[.slice none 0 0, .slice none 0 0] 30) = w2 at hb1 hd2 hr2 hgw hgw2 ⊢
    clear hci hbi
    have hdl : w.heap.size < w2.heap.size := (Array.getElem?_eq_some_iff.1 hd2).1
    have hrl : w.heap.size + 1 < w2.heap.size := (Array.getElem?_eq_some_iff.1 hr2).1
    obtain ⟨z0, z1, zf⟩ := cells_two hd2
    have Hd2 := Lib.hid hd2
    have Hr2 := Lib.hid hr2
    have Hb1 := Lib.hid hb1
    clear hd2 hr2 hb1
    have i0 : (0 : Int) ≤ (i : Int) := by omega
    have i1 : (i : Int) < (n : Int) := by omega
    have m0 : 0 ≤ m := by omega
    have m1 : 0 ≤ t - m := by omega
    have m2 : t - m ≤ 1099511627776 := by omega
    have hwr : IntKind.i64.wrap (t - m) = t - m := IntWalk.i64_in _ (by omega)
    clear hl0 hl1 hm m1 m2
    have hne0 : ¬ w.heap.size = w.heap.size + 1 := by omega
    have hne1 : ¬ g = w.heap.size + 1 := by omega
    have hgl : g < w2.heap.size := by omega
    have k8 := two_now (w := w2.drew) Hd2.out hgw
    go_region_held3 (fun W => W.cell? ⟨w.heap.size, 0, none⟩ = some (.slice (some ⟨gb, 0, none⟩) n cb) ∧ W.cell? ⟨w.heap.size, 1, none⟩ = some (.slice (some ⟨g, 0, none⟩) n cap) ∧ W.cell? ⟨g, i, none⟩ = some (.int .i64 t)) (first | with_reducible exact k8 | with_reducible exact k9 | with_reducible exact k10 _ _) (first | (go_at_call 20; refine (Hw.out w2.drew (show Below w.heap.size w w2.drew from below_drewN Hb1.out 1)).mono ?_; rintro e w9 ⟨a1, c1, a2, c2, rfl, hr9, hb8⟩; have hb9 : Below w2.heap.size w2 w9 := (below_drewN (Below.refl _ w2) 1).trans hb8; have hr0 := (hb9.block _ hrl).trans Hr2.out; have hd0 := (hb9.block _ hdl).trans Hd2.out; have hg0 := (hb9.cell (p := ⟨g, i, none⟩) hgl).trans hgw; obtain ⟨x0, x1, xf⟩ := cells_two hr0; have k9 := two_now hd0 hg0; have k10 := two_kept hd0 hg0 hne0 hne1; have Hr0 := Lib.hid hr0; have Hr9 := Lib.hid hr9; have Hb9 := Lib.hid hb9; clear hr9 hb8 hb9 hr0 hd0 hg0))
    obtain ⟨_, _, hrr, o1, o2⟩ := Hr9.out
    cases hrr
    have t6 : Turned (fun b => b = w.heap.size + 1) w9 ((w9.setCell ⟨w.heap.size + 1, 0, none⟩ (.slice a1 n c1)).setCell ⟨w.heap.size + 1, 1, none⟩ (.slice a2 n c2)) := (Turned.set (S := fun b => b = w.heap.size + 1) rfl).trans (Turned.set (S := fun b => b = w.heap.size + 1) rfl) (fun b hb => .inl hb)
    have b6 : Below w.heap.size w ((w9.setCell ⟨w.heap.size + 1, 0, none⟩ (.slice a1 n c1)).setCell ⟨w.heap.size + 1, 1, none⟩ (.slice a2 n c2)) := ((Hb1.out.trans (Hb9.out.mono (by omega))).setCell (p := ⟨w.heap.size + 1, 0, none⟩) (by show w.heap.size ≤ w.heap.size + 1; omega) _).setCell (p := ⟨w.heap.size + 1, 1, none⟩) (by show w.heap.size ≤ w.heap.size + 1; omega) _
    have o3 := t6.row o1 (fun b hb e => by
      subst e
      obtain ⟨_, cur, hcur⟩ := row_block o1 hb
      rw [Hr0.out] at hcur
      simp at hcur)
    have o4 := t6.row o2 (fun b hb e => by
      subst e
      obtain ⟨_, cur, hcur⟩ := row_block o2 hb
      rw [Hr0.out] at hcur
      simp at hcur)
    have HH := Lib.hid (And.intro o3 (And.intro o4 b6))
    rename_i hHeld
    clear o1 o2 o3 o4 b6 t6 k9 k10 hHeld Hr9 Hr0 Hb9 k8
    go_wp2
    exact bodyPost_ret (v := .tuple #[.agg #[.slice a1 n c1, .slice a2 n c2], .int .i64 0]) (by simp [results, Try.results13, go_sem, x0, x1]) rfl ⟨_, rfl, ⟨_, _, rfl, HH.out.1, HH.out.2.1⟩, HH.out.2.2⟩
  · rw [if_neg hq]
    rw [show nextQ ta 1 (i : Int) (-m) = ta from rfl]
    clear hc hcb hok
    generalize ta i = t at *
    generalize bo i = b0 at *
    have hq' : t < m := by omega
    clear hq
    go_enter Try.func13, Try.ntmps13
    go_wp2
    exact bodyPost_ret (v := .tuple #[.agg #[.slice (some ⟨gb, 0, none⟩) n cb, .slice (some ⟨g, 0, none⟩) n cap], .int .i64 1]) (by simp [results, Try.results13, go_sem]) rfl ⟨_, rfl, HR.out.below (((Below.refl _ w).alloc (Nat.le_refl _) _).alloc (by simp) _), ((Below.refl _ w).alloc (Nat.le_refl _) _).alloc (by simp) _⟩
end Go.Proofs.Ytihbfkiofdancaa
