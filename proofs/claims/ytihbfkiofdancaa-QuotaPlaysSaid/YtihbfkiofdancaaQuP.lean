/-
  QuotaPlays returns true, for any bounds and any acts: the walk.
-/
import Derived.Test.YtihbfkiofdancaaQuO
namespace Go.Proofs.Ytihbfkiofdancaa
open Go.RowKit Go.Maps

/-- The document's book in the variable's block mb, its rows made since w0. -/
structure RefM (w0 : World) (mb n : Nat) (bo ta : Nat → Int) (W : World) : Prop where
  bm : w0.heap.size ≤ mb
  lo : w0.heap.size ≤ W.heap.size
  ex : ∃ a1 c1 a2 c2, W.heap[mb]? = some (.cells #[.slice a1 n c1, .slice a2 n c2] 30 (0, 0)) ∧ RefB W w0.heap.size (.agg #[.slice a1 n c1, .slice a2 n c2]) n bo ta
section
variable {w0 W W' : World} {mb N n : Nat} {bo ta ta' bo' : Nat → Int}
theorem RefM.below (h : RefM w0 mb n bo ta W) (hb : Below W.heap.size W W') : RefM w0 mb n bo ta W' := by
  obtain ⟨a1, c1, a2, c2, h1, h2⟩ := h.ex
  exact ⟨h.bm, Nat.le_trans h.lo hb.size, a1, c1, a2, c2, (hb.block mb (Array.getElem?_eq_some_iff.1 h1).1).trans h1, h2.below hb⟩
theorem RefM.drewN (h : RefM w0 mb n bo ta W) (q : Nat) : RefM w0 mb n bo ta (W.drewN q) := h.below (below_drewN (Below.refl _ W) q)
/-- A call at a book turns nothing of it. -/
theorem RefM.turn (h : RefM w0 mb n bo ta W) (hN : BookAt W N n bo' ta') (t : Turned (fun b => b = N) W W') : RefM w0 mb n bo ta W' := by
  obtain ⟨a1, c1, a2, c2, h1, vb, vt, e, h2, h3⟩ := h.ex
  obtain ⟨cs, hc, _⟩ := hN.mem
  cases e
  refine ⟨h.bm, Nat.le_trans h.lo t.size, a1, c1, a2, c2, t.heap h1 (fun e => ?_), _, _, rfl, t.row h2 (fun b hb e => ?_), t.row h3 (fun b hb e => ?_)⟩
  · subst e
    rw [hc] at h1
    simp at h1
  · subst e
    obtain ⟨_, cur, hcur⟩ := row_block h2 hb
    rw [hc] at hcur
    simp at hcur
  · subst e
    obtain ⟨_, cur, hcur⟩ := row_block h3 hb
    rw [hc] at hcur
    simp at hcur
/-- Another book is laid into the variable. -/
theorem RefM.put (h : RefM w0 mb n bo ta W) {v1 v2 : Value} (hv : RefB W w0.heap.size (.agg #[v1, v2]) n bo ta') : RefM w0 mb n bo ta' ((W.setCell ⟨mb, 0, none⟩ v1).setCell ⟨mb, 1, none⟩ v2) := by
  obtain ⟨a1, c1, a2, c2, h1, _⟩ := h.ex
  obtain ⟨_, _, e, h2, h3⟩ := hv
  cases e
  have t : Turned (fun b => b = mb) W ((W.setCell ⟨mb, 0, none⟩ v1).setCell ⟨mb, 1, none⟩ v2) := (Turned.set (S := fun b => b = mb) rfl).trans (Turned.set (S := fun b => b = mb) rfl) (fun b hb => .inl hb)
  have hs := set_block (j := 1) (x := v2) (set_block (j := 0) (x := v1) h1)
  obtain ⟨b1, d1, rfl⟩ := row_slice h2
  obtain ⟨b2, d2, rfl⟩ := row_slice h3
  refine ⟨h.bm, Nat.le_trans h.lo t.size, b1, d1, b2, d2, hs, _, _, rfl, t.row h2 (fun b hb e => ?_), t.row h3 (fun b hb e => ?_)⟩
  · subst e
    obtain ⟨_, cur, hcur⟩ := row_block h2 hb
    rw [h1] at hcur
    simp at hcur
  · subst e
    obtain ⟨_, cur, hcur⟩ := row_block h3 hb
    rw [h1] at hcur
    simp at hcur
theorem HasB.put (h : HasB w0 N n bo ta W) (hm : RefM w0 mb n bo' ta' W) (v1 v2 : Value) : HasB w0 N n bo ta ((W.setCell ⟨mb, 0, none⟩ v1).setCell ⟨mb, 1, none⟩ v2) := by
  have t : Turned (fun b => b = mb) W ((W.setCell ⟨mb, 0, none⟩ v1).setCell ⟨mb, 1, none⟩ v2) := (Turned.set (S := fun b => b = mb) rfl).trans (Turned.set (S := fun b => b = mb) rfl) (fun b hb => .inl hb)
  obtain ⟨a1, c1, a2, c2, h1, _⟩ := hm.ex
  refine ⟨h.bN, h.bk.keep t (fun e => ?_), h.lo.trans (t.below h.lo.size (fun b e => by rw [e]; exact hm.bm))⟩
  obtain ⟨cs, hc, _⟩ := h.bk.mem
  rw [e] at hc
  rw [hc] at h1
  simp at h1
/-- What the walk reads of it. -/
theorem RefM.cells (h : RefM w0 mb n bo ta W) (hn : 0 < n) : ∃ g1 c1 g2 c2, W.cell? ⟨mb, 0, none⟩ = some (.slice (some ⟨g1, 0, none⟩) n c1) ∧ W.cell? ⟨mb, 1, none⟩ = some (.slice (some ⟨g2, 0, none⟩) n c2) ∧ (∀ j, W.frozen? ⟨mb, j, none⟩ = false) ∧
    (∀ i, i < n → W.cell? ⟨g1, i, none⟩ = some (.int .i64 (bo i))) ∧ (∀ i, i < n → W.cell? ⟨g2, i, none⟩ = some (.int .i64 (ta i))) ∧ c1 ≤ maxLen ∧ c2 ≤ maxLen ∧ n ≤ c1 ∧ n ≤ c2 ∧ RefB W w0.heap.size (.agg #[.slice (some ⟨g1, 0, none⟩) n c1, .slice (some ⟨g2, 0, none⟩) n c2]) n bo ta := by
  obtain ⟨a1, c1, a2, c2, h1, vb, vt, e, h2, h3⟩ := h.ex
  cases e
  obtain ⟨g1, d1, e1, _, _, q1, q2, q3, _⟩ := own_sliceQ h2 hn
  obtain ⟨g2, d2, e2, _, _, r1, r2, r3, _⟩ := own_sliceQ h3 hn
  cases e1
  cases e2
  obtain ⟨z0, z1, zf⟩ := cells_two h1
  exact ⟨g1, c1, g2, c2, z0, z1, zf, q3, r3, q2, r2, q1, r1, _, _, rfl, h2, h3⟩
end

/-- A drawn act in its block. -/
theorem act_cells3 {w : World} {b t : Nat} {x y z : Value} (h : w.heap[b]? = some (.cells #[x, y, z] t (0, 0))) : w.cell? ⟨b, 0, none⟩ = some x ∧ w.cell? ⟨b, 1, none⟩ = some y ∧ w.cell? ⟨b, 2, none⟩ = some z := by
  refine ⟨?_, ?_, ?_⟩ <;> rw [Lib.cell_of_heap h] <;> rfl
theorem taken_minus (n : Nat) (ta : Nat → Int) : takenQ n ta (-1) = 0 := by
  unfold takenQ hasQ
  rw [decide_eq_false (by omega)]
  rfl
theorem left_behind (n : Nat) (bo ta : Nat → Int) : leftQ n bo ta (n : Int) = 0 := by
  unfold leftQ hasQ
  rw [decide_eq_false (by omega)]
  rfl

set_option maxRecDepth 100000 in
set_option maxHeartbeats 4000000 in
theorem qplays_walk (A : Option Addr) (n c : Nat) (lb : List Int) (A' : Option Addr) (n' c' : Nat) (la : List ActQ) (w : World) (h : Ints w A n lb) (hnc : n ≤ c) (hcm : c ≤ maxLen) (h' : ActsQ w A' n' la) :
    Calls Try.prog 3 #[.slice A n c, .slice A' n' c'] w fun e w' => e = .returned (.bool true) ∧ Below w.heap.size w w' := by
  have haw := awake9_any w
  unfold maxLen at hcm
  go_enter Try.func3, Try.ntmps3
  go_wp2_with fail
  refine haw.mono ?_
  rintro e w1 ⟨rfl, hb1⟩
  clear haw
  by_cases hn : 100 < n
  · have Hb := Lib.hid hb1
    clear hb1
    go_wp2_with fail
    go_ret
    exact ⟨rfl, Hb.out⟩
  by_cases hn' : 300 < n'
  · have Hb := Lib.hid hb1
    clear hb1
    go_wp2_with fail
    go_ret
    exact ⟨rfl, Hb.out⟩
  -- the bounds are copied
  have hIn : ∀ (W : World) (v : Value), W.ownsRow w1.heap.size 3 1 v n (intsQ n fun i => lb.getD i 0) → ∃ a c2, v = .slice a n c2 ∧ Ints W a n lb := fun W v hv => by
    obtain ⟨a, c2, rfl⟩ := row_slice hv
    refine ⟨a, c2, rfl, h.1, ?_⟩
    rcases Nat.eq_zero_or_pos n with e | e
    · exact .inl e
    · obtain ⟨g, cap, e2, _, hg, _, _, hc, _⟩ := own_sliceQ hv e
      cases e2
      refine .inr ⟨g, 0, rfl, hg, fun i hi => ?_⟩
      rw [Nat.zero_add, hc i (by rw [← h.1]; exact hi), List.getD_eq_getElem?_getD, List.getElem?_eq_getElem hi, Option.getD_some]
  have HI := Lib.hid hIn
  have H := Lib.hid h
  have H' := Lib.hid h'
  clear hIn h h'
  obtain ⟨i0, hi0, hz0, hz1, hz2⟩ := info_parts9 infoInt9
  have hsrc : Hid (∀ ad, A = some ad → ∀ (W : World) j u, Below w1.heap.size w1 W → (intsQ n fun j => lb.getD j 0)[j]? = some u → W.cell? (ad.add j) = some u) := Lib.hid fun ad hA W j u hW hj => by
    have hjn : j < n := by
      have := (List.getElem?_eq_some_iff.1 hj).1
      rw [intsQ_length] at this
      exact this
    rw [intsQ_get _ hjn] at hj
    obtain ⟨b, off, e, hbl, hc⟩ := H.out.at_ hjn
    rw [hA] at e
    cases e
    rw [Addr.add_lit, hW.cell (p := ⟨b, off + j, none⟩) (Nat.lt_of_lt_of_le hbl hb1.size), hb1.cell (p := ⟨b, off + j, none⟩) hbl, hc]
    exact hj
  rcases A with _ | ad
  · obtain rfl : n = 0 := by
      rcases H.out.2 with e | ⟨_, _, e, _⟩
      · exact e
      · cases e
    have hI0 : Ints (w1.alloc (.cells #[] 3)) (some ⟨w1.heap.size, 0, none⟩) 0 lb := ⟨H.out.1, .inl rfl⟩
    have hN := hb_new (c := 0) (hb1.alloc hb1.size (.cells #[] 3)) hI0
    have hb2 := hb1.alloc hb1.size (.cells #[] 3)
    go_wp2_with fail
    refine hN.mono ?_
    rintro e W2 ⟨hb3, hr⟩
    have hlo : Below w.heap.size w W2 := hb2.trans (hb3.mono hb2.size)
    clear hb2 hb3 hN hI0 hb1 hsrc HI
    rcases hr with ⟨hg, rfl⟩ | ⟨hg, _⟩
    · have hM := mnew_any none 0 c lb W2 (H.out.below hlo (Nat.le_refl _))
      go_wp2_with fail
      refine hM.mono ?_
      rintro e w5 ⟨hb5, hr⟩
      rcases hr with ⟨_, rfl⟩ | ⟨hg2, _⟩
      · have Hb := Lib.hid ((hlo.trans (hb5.mono hlo.size)).alloc (hlo.trans (hb5.mono hlo.size)).size (.cells #[.slice none 0 0, .slice none 0 0] 30))
        clear hlo hb5 hM
        go_wp2_with fail
        go_ret
        exact ⟨rfl, Hb.out⟩
      · rw [hg] at hg2
        exact absurd hg2 (by decide)
    · have hg1 := (of_decide_eq_true hg).1.1
      have := H.out.1
      omega
  go_wp2_with (at_builtin; refine wpList_append_own _ rfl _ _ 22 rfl w1.heap.size 3 i0 (.int .i64 0) 1 8 Try.underlying22 hi0 hz0 hz1 hz2 rfl (by decide) _ _ _ rfl (World.ownsRow_made w1 #[] 0 (Nat.le_refl _) (Nat.zero_le _) rfl) ad n c (intsQ n fun j => lb.getD j 0) rfl (by rw [intsQ_length, Nat.mul_one]) (fun j u hj => hsrc.out ad rfl _ j u ((Below.refl _ w1).alloc (Nat.le_refl _) _) hj) (intsQ_one n _) (by unfold maxLen; omega) (by omega) (by simp) ?_; intro v' w3 hown hgrow hnil; rw [Nat.zero_add, List.nil_append] at hown; obtain ⟨a9, c9, rfl, hI9⟩ := HI.out w3 v' hown; have hb3 : Below w1.heap.size w1 w3 := ((Below.refl _ w1).alloc (Nat.le_refl _) _).grown hgrow (by simp) (fun k hk => by have hk2 : some w1.heap.size = some k := hk; simp at hk2; omega); have Hb3 := Lib.hid (And.intro hI9 hb3); clear hown hgrow hnil hI9 hb3)
  have hb2 := hb1.trans (Hb3.out.2.mono hb1.size)
  refine (hb_new hb2 Hb3.out.1).mono ?_
  rintro e W2 ⟨hb4, hr⟩
  have hlo : Below w.heap.size w W2 := hb2.trans (hb4.mono hb2.size)
  clear hb2 hb4 hb1 hsrc HI Hb3
  rcases hr with ⟨hg, rfl⟩ | ⟨hg, N, rfl, _, hB⟩
  · have hM := mnew_any (some ad) n c lb W2 (H.out.below hlo (Nat.le_refl _))
    go_wp2_with fail
    refine hM.mono ?_
    rintro e w5 ⟨hb5, hr⟩
    rcases hr with ⟨_, rfl⟩ | ⟨hg2, _⟩
    · have Hb := Lib.hid ((hlo.trans (hb5.mono hlo.size)).alloc (hlo.trans (hb5.mono hlo.size)).size (.cells #[.slice none 0 0, .slice none 0 0] 30))
      clear hlo hb5 hM
      go_wp2_with fail
      go_ret
      exact ⟨rfl, Hb.out⟩
    · rw [hg] at hg2
      exact absurd hg2 (by decide)
  have hM := mnew_any (some ad) n c lb W2 (H.out.below hlo (Nat.le_refl _))
  go_wp2_with fail
  refine hM.mono ?_
  rintro e w5 ⟨hb5, hr⟩
  rcases hr with ⟨hg2, _⟩ | ⟨_, v, rfl, hR⟩
  · rw [hg] at hg2
    exact absurd hg2 (by decide)
  replace hB := hB.below hb5
  have hz2 := hlo.size
  have hz5 := hb5.size
  obtain ⟨vb, vt, rfl, o1, o2⟩ := hR
  obtain ⟨a1, c1, rfl⟩ := row_slice o1
  obtain ⟨a2, c2, rfl⟩ := row_slice o2
  have hal := (Below.refl w5.heap.size w5).alloc (Nat.le_refl _) (.cells #[.slice a1 n c1, .slice a2 n c2] 30)
  have hB6 := hB.below hal
  have hM6 : RefM w w5.heap.size n (fun i => lb.getD i 0) (fun _ => 0) (w5.alloc (.cells #[.slice a1 n c1, .slice a2 n c2] 30)) :=
    ⟨by omega, by have := hal.size; omega, a1, c1, a2, c2, heap_alloc_new w5 _, _, _, rfl, ownsRow_belowQ (row_more o1 hz2) hal, ownsRow_belowQ (row_more o2 hz2) hal⟩
  have hn1 := hB.bk.n1
  have hn16 := hB.bk.n16
  clear hB hM hb5 hlo hz2 hz5 o1 o2 hal hg
  have HBM := Lib.hid (And.intro hB6 hM6)
  clear hB6 hM6
  generalize (fun i => lb.getD i 0) = bo at HBM
  go_wp2_with fail
  generalize w5.alloc (.cells #[.slice a1 n c1, .slice a2 n c2] 30) = w6 at HBM ⊢
  generalize w5.heap.size = mb at HBM ⊢
  go_loopw [5, 9] (fun bv iv wr => ∃ (i N : Nat) (ta : Nat → Int), i ≤ n' ∧ iv = .int .i64 i ∧ bv = .pointer (some ⟨N, 0, none⟩) ∧ HasB w N n bo ta wr ∧ RefM w mb n bo ta wr) (fun _ iv _ => n' - (intOf iv).toNat)
  case atStart => exact ⟨0, N, _, by omega, rfl, rfl, HBM.out.1, HBM.out.2⟩
  case round =>
    clear HBM
    obtain ⟨i, N, ta, hi, rfl, rfl, hB, hM⟩ := hrel
    by_cases hlt : i < n'
    case neg =>
      obtain rfl : i = n' := by omega
      have Hb := Lib.hid hB.lo
      clear hB hM
      go_wp2_with fail
      go_ret
      exact ⟨rfl, Hb.out⟩
    obtain ⟨b, off, k, l, m, rfl, hbs, hm0, hm1, hcs⟩ := H'.out.at_ hlt
    obtain ⟨c0, c1, c2⟩ := hcs _ hB.lo
    have hal := (Below.refl wr.heap.size wr).alloc (Nat.le_refl _) (.cells #[.int .i64 k, .int .i64 l, .int .i64 m] 34)
    have hs7 := heap_alloc_new wr (.cells #[.int .i64 k, .int .i64 l, .int .i64 m] 34)
    have hB7 := hB.below hal
    have hM7 := hM.below hal
    have hNl := hB.bk.lt
    have hml : mb < wr.heap.size := by
      obtain ⟨_, _, _, _, h1, _⟩ := hM.ex
      exact (Array.getElem?_eq_some_iff.1 h1).1
    have H7 := Lib.hid (And.intro hB7 (And.intro hM7 hs7))
    clear hcs hB hM hal hs7 hB7 hM7
    by_cases hk0 : k = 0
    · subst hk0
      have hc7 := hb_take H7.out.1 l m hm1
      obtain ⟨y0, y1, y2⟩ := act_cells3 H7.out.2.2
      go_wp2_with fail
      refine hc7.mono ?_
      rintro e w8 ⟨rfl, hB8, t8⟩
      have hM8 := H7.out.2.1.turn H7.out.1.bk t8
      have hs8 := t8.heap H7.out.2.2 (fun e => by omega)
      obtain ⟨g1, d1, g2, d2, z0, z1, zf, _, _, q1, q2, q3, q4, hR8⟩ := hM8.cells (by omega)
      obtain ⟨y0, y1, y2⟩ := act_cells3 hs8
      have hok := H7.out.1.bk.ok
      have hm8 := mtake_any w.heap.size _ n bo ta w8 hR8 hM8.lo (by omega) hn16 hok l m
      have H8 := Lib.hid (And.intro hB8 (And.intro hM8 hs8))
      clear hB8 hM8 hs8 hR8 t8 H7 c0 c1 c2 hc7 hok
      generalize hF : takeQ n bo ta l m = f at *
      clear hF
      go_wp2_with fail
      refine hm8.mono ?_
      rintro e w9 ⟨v', rfl, hR9, hb9⟩
      obtain ⟨hB8, hM8, hs8⟩ := H8.out
      replace hb9 : Below w8.heap.size w8 w9 := hb9
      have hB9 := hB8.below hb9
      have hM9 := hM8.below hb9
      obtain ⟨u1, u2, rfl, o1, o2⟩ := hR9
      obtain ⟨a1, e1, rfl⟩ := row_slice o1
      obtain ⟨a2, e2, rfl⟩ := row_slice o2
      have hBX := hB9.put hM9 (.slice a1 n e1) (.slice a2 n e2)
      have hMX := hM9.put (v1 := .slice a1 n e1) (v2 := .slice a2 n e2) ⟨_, _, rfl, o1, o2⟩
      obtain ⟨g1', d1', g2', d2', z0, z1, zf, _⟩ := hM9.cells (by omega)
      obtain ⟨N', hN'⟩ : ∃ N', N = N' := ⟨_, rfl⟩
      have HT := Lib.hid (And.intro hBX hMX)
      clear hB8 hM8 hs8 H8 hb9 hB9 hM9 o1 o2 hBX hMX hm8
      subst hN'
      generalize nextQ ta f l m = ta' at HT
      go_wp2_with fail
      go_loopw [14, 15] (fun sv kv wr => ∃ k : Nat, k ≤ n ∧ kv = .int .i64 k ∧ sv = .int .i64 (sumQ ta' k) ∧ HasB w N n bo ta' wr ∧ RefM w mb n bo ta' wr) (fun _ kv _ => n - (intOf kv).toNat)
      case atStart => exact ⟨0, by omega, rfl, rfl, HT.out.1, HT.out.2⟩
      case round =>
        clear HT
        obtain ⟨k, hk, rfl, rfl, hB, hM⟩ := hrel
        obtain ⟨g1, d1, g2, d2, y0, y1, yf, yb, yt, q1, q2, q3, q4, _⟩ := hM.cells (by omega)
        unfold maxLen at q1 q2
        by_cases hkn : k < n
        · obtain ⟨p0, p1⟩ := hB.sum hk
          obtain ⟨r0, r1, r2⟩ := hB.bk.ok k hkn
          have hcb := yb k hkn
          have hct := yt k hkn
          have hsk : sumQ ta' (k + 1) = sumQ ta' k + ta' k := rfl
          obtain ⟨z, hz⟩ : ∃ z, bo k - ta' k = z := ⟨_, rfl⟩
          have hqt : ∀ q, Calls Try.prog 15 #[.pointer (some ⟨N, 0, none⟩), .int .i64 (k : Int)] (wr.drewN q) fun e w' => e = .returned (.int .i64 (ta' k)) ∧ w' = wr.drewN q := fun q => by
            have := hb_taken (hB.drewN q) (k : Int)
            rw [taken_in hkn] at this
            exact this
          have hql : ∀ q, Calls Try.prog 16 #[.pointer (some ⟨N, 0, none⟩), .int .i64 (k : Int)] (wr.drewN q) fun e w' => e = .returned (.int .i64 z) ∧ ∃ m, w' = wr.drewN m := fun q => by
            have := hb_left (hB.drewN q) (k : Int)
            rw [left_in hkn, hz] at this
            exact this.mono fun _ _ ⟨he, m, hm⟩ => ⟨he, q + m, by rw [hm, World.drewN_drewN]⟩
          have HN := Lib.hid (fun q => And.intro (hB.drewN q) (hM.drewN q))
          have Hsk := Lib.hid hsk
          have Hqt := Lib.hid hqt
          have Hql := Lib.hid hql
          have hz0 : 0 ≤ z := by omega
          have hz1 : z ≤ 1099511627776 := by omega
          have Hz := Lib.hid hz
          clear hB hM hsk hqt hql yb yt hz
          generalize sumQ ta' k = sk at *
          generalize ta' k = t at *
          generalize bo k = b0 at *
          go_wp2_with fail
          have hz := Hz.out
          have hwz : IntKind.i64.wrap (b0 - t) = z := by rw [hz]; exact IntWalk.i64_in _ (by omega)
          have p1 : (t != t) = false := by simp
          have p2 : (z != z) = false := by simp
          go_quiet (first | (go_at_call 15; exact Calls.quiet_of_same (Hqt.out _)) | (go_at_call 16; exact Hql.out _))
          go_wp2_with fail
          go_roundw
          case rel => exact ⟨k + 1, by omega, by go_num, by rw [Hsk.out], (HN.out _).1, (HN.out _).2⟩
          case measure => simp [intOf]; omega
        · obtain rfl : k = n := by omega
          have htt := hb_total hB
          have htm := hb_taken hB (-1)
          have htl := hb_left hB (k : Int)
          rw [taken_minus] at htm
          rw [left_behind] at htl
          have HN := Lib.hid (fun q => And.intro (hB.drewN q) (hM.drewN q))
          clear hB hM yb yt
          generalize sumQ ta' k = T at *
          go_wp2_with (first | (go_at_call 17; refine htt.mono ?_; rintro e w' ⟨rfl, rfl⟩) | (go_at_call 15; refine htm.mono ?_; rintro e w' ⟨rfl, rfl⟩) | (go_at_call 16; refine htl.mono ?_; rintro e w' ⟨rfl, q, rfl⟩))
          go_roundw
          case rel => exact ⟨i + 1, N, ta', by omega, by go_num, by first | rfl | trivial, (HN.out _).1, (HN.out _).2⟩
          case measure => simp [intOf]; omega
    by_cases hk1 : k = 1
    · subst hk1
      have hc7 := hb_give H7.out.1 l m hm1
      obtain ⟨y0, y1, y2⟩ := act_cells3 H7.out.2.2
      go_wp2_with fail
      refine hc7.mono ?_
      rintro e w8 ⟨rfl, hB8, t8⟩
      have hM8 := H7.out.2.1.turn H7.out.1.bk t8
      have hs8 := t8.heap H7.out.2.2 (fun e => by omega)
      obtain ⟨g1, d1, g2, d2, z0, z1, zf, _, _, q1, q2, q3, q4, hR8⟩ := hM8.cells (by omega)
      obtain ⟨y0, y1, y2⟩ := act_cells3 hs8
      have hok := H7.out.1.bk.ok
      have hm8 := mgive_any w.heap.size _ n bo ta w8 hR8 hM8.lo (by omega) hn16 hok l m
      have H8 := Lib.hid (And.intro hB8 (And.intro hM8 hs8))
      clear hB8 hM8 hs8 hR8 t8 H7 c0 c1 c2 hc7 hok
      generalize hF : giveQ n ta l m = f at *
      clear hF
      go_wp2_with fail
      refine hm8.mono ?_
      rintro e w9 ⟨v', rfl, hR9, hb9⟩
      obtain ⟨hB8, hM8, hs8⟩ := H8.out
      replace hb9 : Below w8.heap.size w8 w9 := hb9
      have hB9 := hB8.below hb9
      have hM9 := hM8.below hb9
      obtain ⟨u1, u2, rfl, o1, o2⟩ := hR9
      obtain ⟨a1, e1, rfl⟩ := row_slice o1
      obtain ⟨a2, e2, rfl⟩ := row_slice o2
      have hBX := hB9.put hM9 (.slice a1 n e1) (.slice a2 n e2)
      have hMX := hM9.put (v1 := .slice a1 n e1) (v2 := .slice a2 n e2) ⟨_, _, rfl, o1, o2⟩
      obtain ⟨g1', d1', g2', d2', z0, z1, zf, _⟩ := hM9.cells (by omega)
      obtain ⟨N', hN'⟩ : ∃ N', N = N' := ⟨_, rfl⟩
      have HT := Lib.hid (And.intro hBX hMX)
      clear hB8 hM8 hs8 H8 hb9 hB9 hM9 o1 o2 hBX hMX hm8
      subst hN'
      generalize nextQ ta f l (-m) = ta' at HT
      go_wp2_with fail
      go_loopw [14, 15] (fun sv kv wr => ∃ k : Nat, k ≤ n ∧ kv = .int .i64 k ∧ sv = .int .i64 (sumQ ta' k) ∧ HasB w N n bo ta' wr ∧ RefM w mb n bo ta' wr) (fun _ kv _ => n - (intOf kv).toNat)
      case atStart => exact ⟨0, by omega, rfl, rfl, HT.out.1, HT.out.2⟩
      case round =>
        clear HT
        obtain ⟨k, hk, rfl, rfl, hB, hM⟩ := hrel
        obtain ⟨g1, d1, g2, d2, y0, y1, yf, yb, yt, q1, q2, q3, q4, _⟩ := hM.cells (by omega)
        unfold maxLen at q1 q2
        by_cases hkn : k < n
        · obtain ⟨p0, p1⟩ := hB.sum hk
          obtain ⟨r0, r1, r2⟩ := hB.bk.ok k hkn
          have hcb := yb k hkn
          have hct := yt k hkn
          have hsk : sumQ ta' (k + 1) = sumQ ta' k + ta' k := rfl
          obtain ⟨z, hz⟩ : ∃ z, bo k - ta' k = z := ⟨_, rfl⟩
          have hqt : ∀ q, Calls Try.prog 15 #[.pointer (some ⟨N, 0, none⟩), .int .i64 (k : Int)] (wr.drewN q) fun e w' => e = .returned (.int .i64 (ta' k)) ∧ w' = wr.drewN q := fun q => by
            have := hb_taken (hB.drewN q) (k : Int)
            rw [taken_in hkn] at this
            exact this
          have hql : ∀ q, Calls Try.prog 16 #[.pointer (some ⟨N, 0, none⟩), .int .i64 (k : Int)] (wr.drewN q) fun e w' => e = .returned (.int .i64 z) ∧ ∃ m, w' = wr.drewN m := fun q => by
            have := hb_left (hB.drewN q) (k : Int)
            rw [left_in hkn, hz] at this
            exact this.mono fun _ _ ⟨he, m, hm⟩ => ⟨he, q + m, by rw [hm, World.drewN_drewN]⟩
          have HN := Lib.hid (fun q => And.intro (hB.drewN q) (hM.drewN q))
          have Hsk := Lib.hid hsk
          have Hqt := Lib.hid hqt
          have Hql := Lib.hid hql
          have hz0 : 0 ≤ z := by omega
          have hz1 : z ≤ 1099511627776 := by omega
          have Hz := Lib.hid hz
          clear hB hM hsk hqt hql yb yt hz
          generalize sumQ ta' k = sk at *
          generalize ta' k = t at *
          generalize bo k = b0 at *
          go_wp2_with fail
          have hz := Hz.out
          have hwz : IntKind.i64.wrap (b0 - t) = z := by rw [hz]; exact IntWalk.i64_in _ (by omega)
          have p1 : (t != t) = false := by simp
          have p2 : (z != z) = false := by simp
          go_quiet (first | (go_at_call 15; exact Calls.quiet_of_same (Hqt.out _)) | (go_at_call 16; exact Hql.out _))
          go_wp2_with fail
          go_roundw
          case rel => exact ⟨k + 1, by omega, by go_num, by rw [Hsk.out], (HN.out _).1, (HN.out _).2⟩
          case measure => simp [intOf]; omega
        · obtain rfl : k = n := by omega
          have htt := hb_total hB
          have htm := hb_taken hB (-1)
          have htl := hb_left hB (k : Int)
          rw [taken_minus] at htm
          rw [left_behind] at htl
          have HN := Lib.hid (fun q => And.intro (hB.drewN q) (hM.drewN q))
          clear hB hM yb yt
          generalize sumQ ta' k = T at *
          go_wp2_with (first | (go_at_call 17; refine htt.mono ?_; rintro e w' ⟨rfl, rfl⟩) | (go_at_call 15; refine htm.mono ?_; rintro e w' ⟨rfl, rfl⟩) | (go_at_call 16; refine htl.mono ?_; rintro e w' ⟨rfl, q, rfl⟩))
          go_roundw
          case rel => exact ⟨i + 1, N, ta', by omega, by go_num, by first | rfl | trivial, (HN.out _).1, (HN.out _).2⟩
          case measure => simp [intOf]; omega
    by_cases hk2 : k = 2
    · subst hk2
      obtain ⟨y0, y1, y2⟩ := act_cells3 H7.out.2.2
      have hc7 := qcopy_any N n bo ta _ H7.out.1.bk
      go_wp2_with fail
      refine hc7.mono ?_
      rintro e w8 ⟨hb8, M, rfl, hMl, hkM⟩
      have hBN := H7.out.1.below hb8
      have hM8 := H7.out.2.1.below hb8
      have hBM : HasB w M n bo ta w8 := ⟨Nat.le_trans H7.out.1.lo.size hMl, hkM, hBN.lo⟩
      have hNM : N ≠ M := by
        have := H7.out.1.bk.lt
        omega
      have ht := hb_take hBN 0 1 (by omega)
      have HX := Lib.hid (And.intro hBN (And.intro hBM hM8))
      clear hc7 hBN hBM hM8 hb8 hMl hkM H7 c0 c1 c2
      go_wp2_with fail
      refine ht.mono ?_
      rintro e w9 ⟨rfl, hB9, t9⟩
      have HT := Lib.hid (And.intro (HX.out.2.1.other hNM t9 hB9.lo) (HX.out.2.2.turn HX.out.1.bk t9))
      clear HX hB9 t9 ht hNM
      obtain ⟨ta', hta⟩ : ∃ ta', ta = ta' := ⟨_, rfl⟩
      rw [hta] at HT
      go_wp2_with fail
      go_loopw [14, 15] (fun sv kv wr => ∃ k : Nat, k ≤ n ∧ kv = .int .i64 k ∧ sv = .int .i64 (sumQ ta' k) ∧ HasB w M n bo ta' wr ∧ RefM w mb n bo ta' wr) (fun _ kv _ => n - (intOf kv).toNat)
      case atStart => exact ⟨0, by omega, rfl, rfl, HT.out.1, HT.out.2⟩
      case round =>
        clear HT
        obtain ⟨k, hk, rfl, rfl, hB, hM⟩ := hrel
        obtain ⟨g1, d1, g2, d2, y0, y1, yf, yb, yt, q1, q2, q3, q4, _⟩ := hM.cells (by omega)
        unfold maxLen at q1 q2
        by_cases hkn : k < n
        · obtain ⟨p0, p1⟩ := hB.sum hk
          obtain ⟨r0, r1, r2⟩ := hB.bk.ok k hkn
          have hcb := yb k hkn
          have hct := yt k hkn
          have hsk : sumQ ta' (k + 1) = sumQ ta' k + ta' k := rfl
          obtain ⟨z, hz⟩ : ∃ z, bo k - ta' k = z := ⟨_, rfl⟩
          have hqt : ∀ q, Calls Try.prog 15 #[.pointer (some ⟨M, 0, none⟩), .int .i64 (k : Int)] (wr.drewN q) fun e w' => e = .returned (.int .i64 (ta' k)) ∧ w' = wr.drewN q := fun q => by
            have := hb_taken (hB.drewN q) (k : Int)
            rw [taken_in hkn] at this
            exact this
          have hql : ∀ q, Calls Try.prog 16 #[.pointer (some ⟨M, 0, none⟩), .int .i64 (k : Int)] (wr.drewN q) fun e w' => e = .returned (.int .i64 z) ∧ ∃ m, w' = wr.drewN m := fun q => by
            have := hb_left (hB.drewN q) (k : Int)
            rw [left_in hkn, hz] at this
            exact this.mono fun _ _ ⟨he, m, hm⟩ => ⟨he, q + m, by rw [hm, World.drewN_drewN]⟩
          have HN := Lib.hid (fun q => And.intro (hB.drewN q) (hM.drewN q))
          have Hsk := Lib.hid hsk
          have Hqt := Lib.hid hqt
          have Hql := Lib.hid hql
          have hz0 : 0 ≤ z := by omega
          have hz1 : z ≤ 1099511627776 := by omega
          have Hz := Lib.hid hz
          clear hB hM hsk hqt hql yb yt hz
          generalize sumQ ta' k = sk at *
          generalize ta' k = t at *
          generalize bo k = b0 at *
          go_wp2_with fail
          have hz := Hz.out
          have hwz : IntKind.i64.wrap (b0 - t) = z := by rw [hz]; exact IntWalk.i64_in _ (by omega)
          have p1 : (t != t) = false := by simp
          have p2 : (z != z) = false := by simp
          go_quiet (first | (go_at_call 15; exact Calls.quiet_of_same (Hqt.out _)) | (go_at_call 16; exact Hql.out _))
          go_wp2_with fail
          go_roundw
          case rel => exact ⟨k + 1, by omega, by go_num, by rw [Hsk.out], (HN.out _).1, (HN.out _).2⟩
          case measure => simp [intOf]; omega
        · obtain rfl : k = n := by omega
          have htt := hb_total hB
          have htm := hb_taken hB (-1)
          have htl := hb_left hB (k : Int)
          rw [taken_minus] at htm
          rw [left_behind] at htl
          have HN := Lib.hid (fun q => And.intro (hB.drewN q) (hM.drewN q))
          clear hB hM yb yt
          generalize sumQ ta' k = T at *
          go_wp2_with (first | (go_at_call 17; refine htt.mono ?_; rintro e w' ⟨rfl, rfl⟩) | (go_at_call 15; refine htm.mono ?_; rintro e w' ⟨rfl, rfl⟩) | (go_at_call 16; refine htl.mono ?_; rintro e w' ⟨rfl, q, rfl⟩))
          go_roundw
          case rel => exact ⟨i + 1, M, ta', by omega, by go_num, by first | rfl | trivial, (HN.out _).1, (HN.out _).2⟩
          case measure => simp [intOf]; omega
    have q0 : (k == 0) = false := by rw [beq_eq_false_iff_ne]; exact hk0
    have q1 : (k == 1) = false := by rw [beq_eq_false_iff_ne]; exact hk1
    have q2 : (k == 2) = false := by rw [beq_eq_false_iff_ne]; exact hk2
    obtain ⟨y0, y1, y2⟩ := act_cells3 H7.out.2.2
    have HT := Lib.hid (And.intro H7.out.1 H7.out.2.1)
    clear H7 hk0 hk1 hk2
    obtain ⟨ta', hta⟩ : ∃ ta', ta = ta' := ⟨_, rfl⟩
    rw [hta] at HT
    go_wp2_with fail
    go_loopw [14, 15] (fun sv kv wr => ∃ k : Nat, k ≤ n ∧ kv = .int .i64 k ∧ sv = .int .i64 (sumQ ta' k) ∧ HasB w N n bo ta' wr ∧ RefM w mb n bo ta' wr) (fun _ kv _ => n - (intOf kv).toNat)
    case atStart => exact ⟨0, by omega, rfl, rfl, HT.out.1, HT.out.2⟩
    case round =>
      clear HT
      obtain ⟨k, hk, rfl, rfl, hB, hM⟩ := hrel
      obtain ⟨g1, d1, g2, d2, y0, y1, yf, yb, yt, q1, q2, q3, q4, _⟩ := hM.cells (by omega)
      unfold maxLen at q1 q2
      by_cases hkn : k < n
      · obtain ⟨p0, p1⟩ := hB.sum hk
        obtain ⟨r0, r1, r2⟩ := hB.bk.ok k hkn
        have hcb := yb k hkn
        have hct := yt k hkn
        have hsk : sumQ ta' (k + 1) = sumQ ta' k + ta' k := rfl
        obtain ⟨z, hz⟩ : ∃ z, bo k - ta' k = z := ⟨_, rfl⟩
        have hqt : ∀ q, Calls Try.prog 15 #[.pointer (some ⟨N, 0, none⟩), .int .i64 (k : Int)] (wr.drewN q) fun e w' => e = .returned (.int .i64 (ta' k)) ∧ w' = wr.drewN q := fun q => by
          have := hb_taken (hB.drewN q) (k : Int)
          rw [taken_in hkn] at this
          exact this
        have hql : ∀ q, Calls Try.prog 16 #[.pointer (some ⟨N, 0, none⟩), .int .i64 (k : Int)] (wr.drewN q) fun e w' => e = .returned (.int .i64 z) ∧ ∃ m, w' = wr.drewN m := fun q => by
          have := hb_left (hB.drewN q) (k : Int)
          rw [left_in hkn, hz] at this
          exact this.mono fun _ _ ⟨he, m, hm⟩ => ⟨he, q + m, by rw [hm, World.drewN_drewN]⟩
        have HN := Lib.hid (fun q => And.intro (hB.drewN q) (hM.drewN q))
        have Hsk := Lib.hid hsk
        have Hqt := Lib.hid hqt
        have Hql := Lib.hid hql
        have hz0 : 0 ≤ z := by omega
        have hz1 : z ≤ 1099511627776 := by omega
        have Hz := Lib.hid hz
        clear hB hM hsk hqt hql yb yt hz
        generalize sumQ ta' k = sk at *
        generalize ta' k = t at *
        generalize bo k = b0 at *
        go_wp2_with fail
        have hz := Hz.out
        have hwz : IntKind.i64.wrap (b0 - t) = z := by rw [hz]; exact IntWalk.i64_in _ (by omega)
        have p1 : (t != t) = false := by simp
        have p2 : (z != z) = false := by simp
        go_quiet (first | (go_at_call 15; exact Calls.quiet_of_same (Hqt.out _)) | (go_at_call 16; exact Hql.out _))
        go_wp2_with fail
        go_roundw
        case rel => exact ⟨k + 1, by omega, by go_num, by rw [Hsk.out], (HN.out _).1, (HN.out _).2⟩
        case measure => simp [intOf]; omega
      · obtain rfl : k = n := by omega
        have htt := hb_total hB
        have htm := hb_taken hB (-1)
        have htl := hb_left hB (k : Int)
        rw [taken_minus] at htm
        rw [left_behind] at htl
        have HN := Lib.hid (fun q => And.intro (hB.drewN q) (hM.drewN q))
        clear hB hM yb yt
        generalize sumQ ta' k = T at *
        go_wp2_with (first | (go_at_call 17; refine htt.mono ?_; rintro e w' ⟨rfl, rfl⟩) | (go_at_call 15; refine htm.mono ?_; rintro e w' ⟨rfl, rfl⟩) | (go_at_call 16; refine htl.mono ?_; rintro e w' ⟨rfl, q, rfl⟩))
        go_roundw
        case rel => exact ⟨i + 1, N, ta', by omega, by go_num, by first | rfl | trivial, (HN.out _).1, (HN.out _).2⟩
        case measure => simp [intOf]; omega
end Go.Proofs.Ytihbfkiofdancaa
