/-
  Texts of this proof, put together: R8V.
-/
import Derived.Test.YtcjmpkfcjcoobaaGreatX28
import Derived.Deep.RegionWith
namespace Go.Proofs.YtcjmpkfcjcoobaaGreat
open Go.RowKit

theorem size_append (a b : List PairP) : sizeP (a ++ b) = sizeP a + sizeP b := by
  unfold sizeP
  rw [List.map_append, List.sum_append]
theorem size_take (ps : List PairP) (i : Nat) (h : i < ps.length) : sizeP (ps.take (i + 1)) = sizeP (ps.take i) + (5 + ps[i].1.length + ps[i].2.length) := by
  rw [List.take_succ_eq_append_getElem h, size_append]
  rfl
theorem size_take_le (ps : List PairP) (i : Nat) : sizeP (ps.take i) ≤ sizeP ps := by
  conv => rhs; rw [← List.take_append_drop i ps, size_append]
  omega
theorem PairsAt.down {w : World} {B B' : Nat} {v : Value} {l : List PairP} (h : PairsAt w B v l) (hB : B' ≤ B) : PairsAt w B' v l := by
  obtain ⟨h1, h2⟩ := h
  refine ⟨h1, h2.imp id ?_⟩
  rintro ⟨g, cap, cur, q1, q2, q3⟩
  exact ⟨g, cap, cur, q1, by omega, q3⟩
/-- A row of pairs, behind a turn of a store's block. -/
theorem PairsAt.turn {w w' : World} {B b : Nat} {v : Value} {l : List PairP} {cs : Array Value} (h : PairsAt w B v l) (hb : w.heap[b]? = some (.cells cs 49 (0, 0))) (t : Turned (fun k => k = b) w w') : PairsAt w' B v l :=
  t.row h (fun k hk e => by
    subst e
    obtain ⟨_, cur, hcur⟩ := row_block h hk
    rw [hb] at hcur
    simp at hcur)

/-- Behind the stores of what is handed back. -/
theorem fin_three {w0 w6 : World} {B b4 : Nat} {v u0 u1 u2 : Value} {qs : List PairP} (hP : PairsAt w6 B v qs) (g : w6.heap[b4]? = some (.cells #[u0, u1, u2] 49 (0, 0))) (hb : Below w0.heap.size w0 w6) (h4 : w0.heap.size ≤ b4) (v0 v1 v2 : Value) :
    (((w6.setCell ⟨b4, 0, none⟩ v0).setCell ⟨b4, 1, none⟩ v1).setCell ⟨b4, 2, none⟩ v2).cell? ⟨b4, 0, none⟩ = some v0 ∧ (((w6.setCell ⟨b4, 0, none⟩ v0).setCell ⟨b4, 1, none⟩ v1).setCell ⟨b4, 2, none⟩ v2).cell? ⟨b4, 1, none⟩ = some v1 ∧
      (((w6.setCell ⟨b4, 0, none⟩ v0).setCell ⟨b4, 1, none⟩ v1).setCell ⟨b4, 2, none⟩ v2).cell? ⟨b4, 2, none⟩ = some v2 ∧ PairsAt (((w6.setCell ⟨b4, 0, none⟩ v0).setCell ⟨b4, 1, none⟩ v1).setCell ⟨b4, 2, none⟩ v2) B v qs ∧ Below w0.heap.size w0 (((w6.setCell ⟨b4, 0, none⟩ v0).setCell ⟨b4, 1, none⟩ v1).setCell ⟨b4, 2, none⟩ v2) := by
  have hh3 := heap_three (v0 := v0) (v1 := v1) (v2 := v2) g
  have hbl := below_three (b := b4) (v0 := v0) (v1 := v1) (v2 := v2) hb h4 hb.size
  have hP7 := hP.turn g (turned_three (w := w6) (b := b4) (v0 := v0) (v1 := v1) (v2 := v2) (S := fun k => k = b4) rfl)
  obtain ⟨y0, y1, y2, _⟩ := cells_three hh3
  exact ⟨y0, y1, y2, hP7, hbl⟩

set_option maxRecDepth 100000 in
set_option maxHeartbeats 16000000 in
/-- A commit whose changes have a text. -/
theorem rcommit_fit (B C : Nat) (vL v : Value) (ps : List PairP) (l : List Ch) (half used : Nat) (w : World) (hp : PairsAt w B vL ps) (hB : B ≤ w.heap.size) (hc : ChsAt w C v l) (hC : C ≤ w.heap.size) (hlen : l.length ≤ 1000) (hps : ps.length ≤ 10000)
    (hpl : (printL l).length ≤ 10000000) (hsz : sizeP (behindP ps l) ≤ 100000000) (hu : used ≤ 100000) (hh : half ≤ 100000) (hfit : ∀ c ∈ l, c.key.length ≤ 65535 ∧ c.val.length ≤ 65535) (hne : l ≠ []) :
    Calls Tryz.prog 18 #[storeV vL half used, v] w fun e w' => ∃ vL', e = .returned (.tuple #[storeV vL' half (commitP half (used, ps) l).1.1, .int .i64 (commitP half (used, ps) l).2]) ∧ PairsAt w' B vL' (commitP half (used, ps) l).1.2 ∧ Below w.heap.size w w' := by
  have hpr := fun (W : World) (hW : Below w.heap.size w W) => rprint_any C v l W (hc.below hW hC) (Nat.le_trans hC hW.size) (by omega)
  simp only [print_fits, if_pos hfit] at hpr
  have hdn : Hid (∀ (W : World) (i : Nat) (hi : i < l.length) (v' : Value), PairsAt W B v' (behindP ps (l.take i)) → Calls Tryz.prog 41 #[v', chV l[i]] W fun e w' => ∃ v2, e = .returned v2 ∧ PairsAt w' W.heap.size v2 (behindP ps (l.take (i + 1))) ∧ Below W.heap.size W w') := Lib.hid fun W i hi v' h => by
    have h1 := behind_len (l.take i) ps
    have h2 : (l.take i).length ≤ l.length := by rw [List.length_take]; omega
    have := rdone_any B v' _ l[i] W h (by omega)
    rw [← behind_take ps l i hi] at this
    exact this
  obtain ⟨ao, cap, rfl, hps0⟩ := hp.slice
  clear hps0
  have hch := hc
  obtain ⟨ao2, cap2, rfl, hc1, hc2, hat⟩ := hc
  unfold storeV
  obtain ⟨np, hnp⟩ : ∃ np, ps.length = np := ⟨_, rfl⟩
  obtain ⟨n, hn⟩ : ∃ n, l.length = n := ⟨_, rfl⟩
  have hn0 : n ≠ 0 := by rw [← hn]; exact fun e => hne (List.length_eq_zero_iff.1 e)
  have hn0b : ((n : Int) == 0) = false := by
    rw [beq_eq_false_iff_ne]
    omega
  have Hne := Lib.hid hne
  have Hn := Lib.hid hn
  have Hpr := Lib.hid hpr
  have Hat := Lib.hid hat
  have HP := Lib.hid hp
  have Hfit := Lib.hid hfit
  have Hsz := Lib.hid hsz
  obtain ⟨T, hT⟩ : ∃ T, textQ (printL l) = T := ⟨_, rfl⟩
  have hTs : T.size = (printL l).length := by rw [← hT]; rfl
  rw [hT] at Hpr
  rw [hnp] at HP
  rw [hn] at hlen hc1 Hpr ⊢
  rw [hnp] at hps ⊢
  rw [← hTs] at hpl
  have HTs := Lib.hid hTs
  clear hpr hp hfit hsz hat hch hc2 hn hT hTs hne hn0
  have Hnp := Lib.hid hnp
  clear hnp
  obtain ⟨M, hM⟩ : ∃ M : Value → Value → Int → World → Prop, ∀ u e c W, M u e c W ↔ (∃ vL', u = vL' ∧ e = .int .i64 (commitP half (used, ps) l).1.1 ∧ c = (commitP half (used, ps) l).2 ∧ PairsAt W B vL' (commitP half (used, ps) l).1.2) := ⟨_, fun _ _ _ _ => Iff.rfl⟩
  go_enter Tryz.func18, Tryz.ntmps18
  go_wp2_with fail
  have hb0 : Below w.heap.size w ((w.alloc (.cells #[.slice ao np cap, .int .i64 (half : Int), .int .i64 (used : Int)] 49)).alloc (.cells #[.slice none 0 0, .int .i64 0, .int .i64 0] 49)) := ((Below.refl _ w).alloc (Nat.le_refl _) _).alloc (by simp) _
  have hs0 : ((w.alloc (.cells #[.slice ao np cap, .int .i64 (half : Int), .int .i64 (used : Int)] 49)).alloc (.cells #[.slice none 0 0, .int .i64 0, .int .i64 0] 49)).heap[w.heap.size]? = some (.cells #[.slice ao np cap, .int .i64 (half : Int), .int .i64 (used : Int)] 49 (0, 0)) := by
    rw [heap_alloc_old _ _ (by simp)]
    exact heap_alloc_new w _
  have hr0 : ((w.alloc (.cells #[.slice ao np cap, .int .i64 (half : Int), .int .i64 (used : Int)] 49)).alloc (.cells #[.slice none 0 0, .int .i64 0, .int .i64 0] 49)).heap[w.heap.size + 1]? = some (.cells #[.slice none 0 0, .int .i64 0, .int .i64 0] 49 (0, 0)) := by
    have := heap_alloc_new (w.alloc (.cells #[.slice ao np cap, .int .i64 (half : Int), .int .i64 (used : Int)] 49)) (.cells #[.slice none 0 0, .int .i64 0, .int .i64 0] 49)
    simpa using this
  have hz0 : ((w.alloc (.cells #[.slice ao np cap, .int .i64 (half : Int), .int .i64 (used : Int)] 49)).alloc (.cells #[.slice none 0 0, .int .i64 0, .int .i64 0] 49)).heap.size = w.heap.size + 2 := by simp
  generalize ((w.alloc (.cells #[.slice ao np cap, .int .i64 (half : Int), .int .i64 (used : Int)] 49)).alloc (.cells #[.slice none 0 0, .int .i64 0, .int .i64 0] 49)) = w0 at hb0 hs0 hr0 hz0 ⊢
  refine (Hpr.out _ hb0).mono ?_
  rintro e w1 ⟨rfl, hw1⟩
  have hb1 := hb0.trans (hw1.mono hb0.size)
  have hz1 := hw1.size
  have hs1 := (hw1.block w.heap.size (by omega)).trans hs0
  have hr1 := (hw1.block (w.heap.size + 1) (by omega)).trans hr0
  have c0 : w1.cell? ⟨w.heap.size, 0, none⟩ = some (.slice ao np cap) := by rw [Lib.cell_of_heap hs1]; rfl
  have c1 : w1.cell? ⟨w.heap.size, 1, none⟩ = some (.int .i64 (half : Int)) := by rw [Lib.cell_of_heap hs1]; rfl
  have c2 : w1.cell? ⟨w.heap.size, 2, none⟩ = some (.int .i64 (used : Int)) := by rw [Lib.cell_of_heap hs1]; rfl
  have P1 := Lib.hid (And.intro hs1 (And.intro hr1 hb1))
  clear hs0 hr0 hw1 hb0 hs1 hr1 hb1 Hpr
  --@a
  go_wp2
  --@b
  have hP1 := ownsRow_below4 HP.out P1.out.2.2
  have hz2 : (w1.alloc (.cells #[.slice ao np cap, .int .i64 (half : Int), .int .i64 (used : Int)] 49)).heap.size = w1.heap.size + 1 := by simp
  have h8 := heap_alloc_new w1 (.cells #[.slice ao np cap, .int .i64 (half : Int), .int .i64 (used : Int)] 49)
  have ha8 := (Below.refl w1.heap.size w1).alloc (Nat.le_refl _) (.cells #[.slice ao np cap, .int .i64 (half : Int), .int .i64 (used : Int)] 49)
  have hP2 := ownsRow_below4 hP1 ha8
  have hb2 := P1.out.2.2.trans (ha8.mono P1.out.2.2.size)
  have hs2 := (ha8.block w.heap.size (by omega)).trans P1.out.1
  have hr2 := (ha8.block (w.heap.size + 1) (by omega)).trans P1.out.2.1
  generalize w1.alloc (.cells #[.slice ao np cap, .int .i64 (half : Int), .int .i64 (used : Int)] 49) = w2 at hz2 h8 hP2 hb2 hs2 hr2 ⊢
  obtain ⟨b8, hb8⟩ : ∃ b8, w1.heap.size = b8 := ⟨_, rfl⟩
  rw [hb8] at hz2 h8 hz1 ⊢
  clear hP1 ha8 c0 c1 c2 P1 hb8 w1
  have P2 := Lib.hid (And.intro hs2 (And.intro hr2 hb2))
  have HP2 := Lib.hid hP2
  have H8 := Lib.hid h8
  have hcl : Hid (∀ (i : Nat) (hi : i < l.length) (W : World), Turned (fun b => b = b8) w2 W → ∃ g off, ao2 = some ⟨g, off, none⟩ ∧ g < W.heap.size ∧ W.cell? ⟨g, off + i * 3, none⟩ = some (.string (textQ l[i].key)) ∧ W.cell? ⟨g, off + i * 3 + 1, none⟩ = some (.string (textQ l[i].val)) ∧ W.cell? ⟨g, off + i * 3 + 2, none⟩ = some (.bool l[i].gone)) := Lib.hid fun i hi W t => by
    obtain ⟨g, off, e, hg, k0, k1, k2⟩ := Hat.out i hi
    have hz := t.size
    have hc : ∀ j, W.cell? ⟨g, j, none⟩ = w.cell? ⟨g, j, none⟩ := fun j => (World.cell?_of_block (t.block g (by omega) (by omega))).trans (P2.out.2.2.cell (p := ⟨g, j, none⟩) (by show g < w.heap.size; omega))
    exact ⟨g, off, e, by omega, (hc _).trans k0, (hc _).trans k1, (hc _).trans k2⟩
  clear hP2 hb2 hs2 hr2 h8 Hat hc1
  --@c
  go_loopw [9] (fun iv wr => ∃ (i : Nat) (v' : Value), i ≤ n ∧ iv = .int .i64 i ∧ Hid (PairsAt wr B v' (behindP ps (l.take i))) ∧ Hid (wr.heap[b8]? = some (.cells #[v', .int .i64 (half : Int), .int .i64 (used : Int)] 49 (0, 0))) ∧ Hid (Turned (fun b => b = b8) w2 wr)) (fun iv _ => n - (intOf iv).toNat)
  case atStart => exact ⟨0, .slice ao np cap, by omega, rfl, Lib.hid (by rw [List.take_zero, behind_nil]; exact HP2.out), Lib.hid H8.out, Lib.hid (Turned.refl _ _)⟩
  case round =>
    obtain ⟨i, v', hi, rfl, HPr, H8r, Ht⟩ := hrel
    have hwz := Ht.out.size
    obtain ⟨ao3, cap3, rfl, hsl3⟩ := HPr.out.slice
    clear hsl3
    obtain ⟨m3, hm3⟩ : ∃ m3, (behindP ps (l.take i)).length = m3 := ⟨_, rfl⟩
    rw [hm3] at HPr H8r
    by_cases hlt : i < n
    · have hil : i < l.length := by rw [Hn.out]; exact hlt
      obtain ⟨g, off, rfl, hg, k0, k1, k2⟩ := hcl.out i hil wr Ht.out
      have hd := hdn.out wr.drew i hil (.slice ao3 m3 cap3) (by
        have h0 : wr.ownsRow B 111 2 (.slice ao3 m3 cap3) _ _ := HPr.out
        exact h0.drew)
      obtain ⟨x0, _, _, xf⟩ := cells_three H8r.out
      unfold chV at hd
      obtain ⟨c, hc⟩ : ∃ c, l[i] = c := ⟨_, rfl⟩
      rw [hc] at k0 k1 k2 hd
      obtain ⟨KT, hKT⟩ : ∃ KT, textQ c.key = KT := ⟨_, rfl⟩
      obtain ⟨VT, hVT⟩ : ∃ VT, textQ c.val = VT := ⟨_, rfl⟩
      obtain ⟨gn, hgn⟩ : ∃ gn, c.gone = gn := ⟨_, rfl⟩
      rw [hKT] at k0 hd
      rw [hVT] at k1 hd
      rw [hgn] at k2 hd
      have xf0 := xf 0
      have hb8z : b8 < wr.heap.size := by omega
      clear hc hKT hVT hgn xf hil hm3
      --@d
      go_wp2_with fail
      --@e
      go_region_with (go_at_call 41; refine hd.mono ?_; rintro e w4 ⟨v4, rfl, hP4, hb4⟩; obtain ⟨ao4, cap4, rfl, hsl4⟩ := hP4.slice; clear hsl4; have h84 := (hb4.block b8 hb8z).trans H8r.out; obtain ⟨y0, _, _, yf⟩ := cells_three h84; have yf0 := yf 0; clear yf)
      --@f
      all_goals
        have hbw : Below wr.heap.size wr w4 := (Below.drew (Below.refl _ wr)).trans hb4
        have t4 : Turned (fun b => b = b8) w2 (w4.setCell ⟨b8, 0, none⟩ (.slice ao4 (behindP ps (l.take (i + 1))).length cap4)) := (Ht.out.trans (T := fun _ => False) (Turned.of_below hbw (Nat.le_refl _)) (fun _ h => h.elim)).trans (Turned.set (S := fun b => b = b8) rfl) (fun _ h => .inl h)
        have h85 : (w4.setCell ⟨b8, 0, none⟩ (.slice ao4 (behindP ps (l.take (i + 1))).length cap4)).heap[b8]? = some (.cells #[.slice ao4 (behindP ps (l.take (i + 1))).length cap4, .int .i64 (half : Int), .int .i64 (used : Int)] 49 (0, 0)) := set_block h84
        have hP5 := (PairsAt.turn hP4 h84 (Turned.set (S := fun b => b = b8) (j := 0) (v := .slice ao4 (behindP ps (l.take (i + 1))).length cap4) rfl)).down (B' := B) (by show B ≤ wr.heap.size; have := P2.out.2.2.size; omega)
        have HA := Lib.hid (And.intro hP5 (And.intro h85 t4))
        clear hbw t4 h85 hP5 hP4 hb4 h84 y0 yf0 x0 xf0 k0 k1 k2 HPr H8r Ht
        go_wp2
        go_roundw
        case rel => exact ⟨i + 1, _, by omega, by go_num, Lib.hid HA.out.1, Lib.hid HA.out.2.1, Lib.hid HA.out.2.2⟩
        case measure => simp [intOf]; omega
    · obtain rfl : i = n := by omega
      rw [show l.take i = l from List.take_of_length_le (by rw [Hn.out]; exact Nat.le_refl _)] at HPr hm3
      obtain ⟨qs, hqs⟩ : ∃ qs, behindP ps l = qs := ⟨_, rfl⟩
      rw [hqs] at HPr hm3 Hsz
      have Hqs := Lib.hid hqs
      have Hm3 := Lib.hid hm3
      have hq3 : m3 ≤ 11000 := by
        have h1 := behind_len l ps
        have h2 := Hn.out
        have h3 := Hnp.out
        rw [hqs, hm3] at h1
        omega
      have hb2' : w.heap.size ≠ b8 := by omega
      have hb4' : w.heap.size + 1 ≠ b8 := by omega
      have hzw2 := P2.out.2.2.size
      have g2 := (Ht.out.block w.heap.size (by omega) hb2').trans P2.out.1
      have g4 := (Ht.out.block (w.heap.size + 1) (by omega) hb4').trans P2.out.2.1
      have hbr : Below w.heap.size w wr := P2.out.2.2.trans (Ht.out.below (by omega) (fun b e => by omega))
      have sc := secN T.size
      have hsec := rsecs_any T.size (by omega) wr.drew
      have hsn : secN T.size ≤ 200000 := by unfold secN; omega
      obtain ⟨sn, hsne⟩ : ∃ sn, secN T.size = sn := ⟨_, rfl⟩
      rw [hsne] at hsec hsn
      have Hsn := Lib.hid hsne
      have hwr1 : IntKind.i64.wrap ((used : Int) + (sn : Int)) = (used : Int) + (sn : Int) := IntWalk.i64_in _ (by omega)
      obtain ⟨x0, x1, x2, xf⟩ := cells_three H8r.out
      obtain ⟨z0, z1, z2, zf⟩ := cells_three g2
      have hb8z : b8 < wr.heap.size := by omega
      have Hg := Lib.hid (And.intro g2 (And.intro g4 hbr))
      have xf2 := xf 2
      have hzw : w.heap.size < wr.heap.size := by omega
      clear g2 g4 hbr hqs hm3 hsne xf zf sc hdn hcl H8 HP2 hzw2 P2 Ht
      --@g
      go_wp2_with fail
      --@h
      go_region_with (go_at_call 40; refine hsec.mono ?_; rintro e w5 ⟨rfl, hb5⟩; have h85 := (hb5.block b8 hb8z).trans H8r.out; have h25 := (hb5.block w.heap.size hzw).trans Hg.out.1; obtain ⟨_, _, _, yf⟩ := cells_three h85; obtain ⟨_, _, y2, _⟩ := cells_three h25; have yf2 := yf 2; clear yf)
      --@i
      all_goals
        have hbw : Below wr.heap.size wr w5 := (Below.drew (Below.refl _ wr)).trans hb5
        have h86 : (w5.setCell ⟨b8, 2, none⟩ (.int .i64 ((used : Int) + (sn : Int)))).heap[b8]? = some (.cells #[.slice ao3 m3 cap3, .int .i64 (half : Int), .int .i64 ((used : Int) + (sn : Int))] 49 (0, 0)) := set_block h85
        have ts : Turned (fun b => b = b8) w5 (w5.setCell ⟨b8, 2, none⟩ (.int .i64 ((used : Int) + (sn : Int)))) := Turned.set (S := fun b => b = b8) rfl
        have hP6 : PairsAt (w5.setCell ⟨b8, 2, none⟩ (.int .i64 ((used : Int) + (sn : Int)))) B (.slice ao3 m3 cap3) qs := PairsAt.turn (ownsRow_below4 HPr.out hbw) h85 ts
        have g26 := (ts.block w.heap.size (by have := hbw.size; omega) (by omega)).trans h25
        have g46 := (ts.block (w.heap.size + 1) (by have := hbw.size; omega) (by omega)).trans ((hbw.block (w.heap.size + 1) (by omega)).trans Hg.out.2.1)
        have hb6 : Below w.heap.size w (w5.setCell ⟨b8, 2, none⟩ (.int .i64 ((used : Int) + (sn : Int)))) := (Hg.out.2.2.trans (hbw.mono (by omega))).setCell (p := ⟨b8, 2, none⟩) (by show w.heap.size ≤ b8; omega) _
        generalize w5.setCell ⟨b8, 2, none⟩ (.int .i64 ((used : Int) + (sn : Int))) = w6 at h86 hP6 g26 g46 hb6 ⊢
        have hz6 := hb6.size
        clear ts hbw hb5 h85 h25 y2 yf2 x0 x1 x2 xf2 z0 z1 z2 HPr H8r Hg
        obtain ⟨x0, x1, x2, xf⟩ := cells_three h86
        obtain ⟨z0, z1, z2, zf⟩ := cells_three g26
        obtain ⟨d0, d1, d2, df⟩ := cells_three g46
        have hcl2 : secN (printL l).length = sn := by rw [← HTs.out]; exact Hsn.out
        have G6 := Lib.hid (And.intro hP6 (And.intro g46 (And.intro hb6 (And.intro h86 g26))))
        have hb86 : b8 < w6.heap.size := (Array.getElem?_eq_some_iff.1 h86).1
        have df0 := df 0
        have df1 := df 1
        have df2 := df 2
        by_cases hfits : used + sn ≤ half
        · have hcp : commitP half (used, ps) l = ((used + sn, qs), 0) := by
            unfold commitP
            rw [if_neg (fun hh => hh Hfit.out), if_neg Hne.out, hcl2, if_pos hfits, Hqs.out]
          have hfin := fin_three hP6 g46 hb6 (by omega) (.slice ao3 m3 cap3) (.int .i64 (half : Int)) (.int .i64 ((used : Int) + (sn : Int)))
          obtain ⟨y0, y1, y2, hP7, hb7⟩ := hfin
          have HF := Lib.hid (And.intro hP7 hb7)
          have Hcp := Lib.hid hcp
          have hfi : ¬ (half : Int) < (used : Int) + (sn : Int) := by omega
          clear hP7 hb7 hcp hP6 g46 hb6 h86 g26 xf zf df hcl2
          --@j
          go_wp2
          exact bodyPost_ret (v := .tuple #[.agg #[.slice ao3 m3 cap3, .int .i64 (half : Int), .int .i64 ((used : Int) + (sn : Int))], .int .i64 0]) (by simp [results, Tryz.results18, go_sem, y0, y1, y2]) rfl ⟨.slice ao3 m3 cap3, by rw [Hcp.out]; show _ = Ending.returned (.tuple #[.agg #[.slice ao3 m3 cap3, .int .i64 (half : Int), .int .i64 ((used + sn : Nat) : Int)], .int .i64 0]); rw [Int.natCast_add], by rw [Hcp.out]; exact HF.out.1, HF.out.2⟩
        · have hfi : (half : Int) < (used : Int) + (sn : Int) := by omega
          clear hP6 g46 hb6 h86 g26 zf df
          --@k
          go_wp2
          go_loopw [10, 11] (fun nv jv wr => ∃ j : Nat, j ≤ m3 ∧ nv = .int .i64 ((sizeP (qs.take j) : Nat) : Int) ∧ jv = .int .i64 j ∧ Below w6.heap.size w6 wr) (fun _ jv _ => m3 - (intOf jv).toNat)
          case atStart => exact ⟨0, by omega, by simp [sizeP], rfl, Below.refl _ _⟩
          case round =>
            obtain ⟨j, hj, rfl, rfl, hbr⟩ := hrel
            have hle := size_take_le qs j
            have hS := Hsz.out
            have hb8w : b8 < wr.heap.size := by have := hbr.size; omega
            have v0 := (hbr.cell (p := ⟨b8, 0, none⟩) (by show b8 < w6.heap.size; omega)).trans x0
            by_cases hltj : j < m3
            · have hjl : j < qs.length := by rw [Hm3.out]; exact hltj
              obtain ⟨_, _, hsl, _, _, hat⟩ := PairsAt.slice G6.out.1
              obtain ⟨rfl, _, rfl⟩ := Value.slice.inj hsl
              obtain ⟨g, rfl, hg, k0, k1⟩ := hat j hjl
              have htk := size_take qs j hjl
              have hle2 := size_take_le qs (j + 1)
              obtain ⟨p, hp⟩ : ∃ p, qs[j] = p := ⟨_, rfl⟩
              rw [hp] at k0 k1 htk
              obtain ⟨KT, hKT⟩ : ∃ KT, textQ p.1 = KT := ⟨_, rfl⟩
              obtain ⟨VT, hVT⟩ : ∃ VT, textQ p.2 = VT := ⟨_, rfl⟩
              have hks : KT.size = p.1.length := by rw [← hKT]; rfl
              have hvs : VT.size = p.2.length := by rw [← hVT]; rfl
              rw [hKT] at k0
              rw [hVT] at k1
              rw [← hks, ← hvs] at htk
              obtain ⟨q, hq⟩ : ∃ q, sizeP (qs.take j) = q := ⟨_, rfl⟩
              rw [hq] at htk hle ⊢
              have e1 : IntKind.i64.wrap ((q : Int) + 5) = (q : Int) + 5 := IntWalk.i64_in _ (by omega)
              have e2 : IntKind.i64.wrap ((q : Int) + 5 + (KT.size : Int)) = (q : Int) + 5 + (KT.size : Int) := IntWalk.i64_in _ (by omega)
              have e3 : IntKind.i64.wrap ((q : Int) + 5 + (KT.size : Int) + (VT.size : Int)) = (q : Int) + 5 + (KT.size : Int) + (VT.size : Int) := IntWalk.i64_in _ (by omega)
              have u0 := (hbr.cell (p := ⟨g, j * 2, none⟩) hg).trans k0
              have u1 := (hbr.cell (p := ⟨g, j * 2 + 1, none⟩) hg).trans k1
              have hgz : g < wr.heap.size := by have := hbr.size; omega
              have Htk := Lib.hid htk
              clear hat hsl hp hKT hVT hks hvs k0 k1 hq hle hle2 htk hS
              --@l
              go_wp2_with fail
              --@m
              go_quiet (fail)
              have hb7 := below_drewN hbr nq
              clear hbr u0 u1 v0 e1 e2 e3
              go_wp2
              go_roundw
              case rel => exact ⟨j + 1, by omega, by rw [Htk.out]; congr 1; push_cast; omega, by go_num, hb7⟩
              case measure => simp [intOf]; omega
            · obtain rfl : j = m3 := by omega
              rw [show qs.take j = qs from List.take_of_length_le (by rw [Hm3.out]; exact Nat.le_refl _)] at hle ⊢
              have hsec2 := rsecs_any (sizeP qs) (by omega) wr
              obtain ⟨s2, hs2⟩ : ∃ s2, secN (sizeP qs) = s2 := ⟨_, rfl⟩
              rw [hs2] at hsec2
              have Hs2 := Lib.hid hs2
              have hbw := hbr
              clear hle hS hs2
              --@n
              go_wp2_with fail
              refine hsec2.mono ?_
              rintro e w8 ⟨rfl, hb8x⟩
              have hb68 : Below w6.heap.size w6 w8 := hbw.trans (hb8x.mono hbw.size)
              obtain ⟨P6, g46, hb6, h86, g26⟩ := G6.out
              have h88 := (hb68.block b8 (by omega)).trans h86
              have h28 := (hb68.block w.heap.size (by omega)).trans g26
              have h48 := (hb68.block (w.heap.size + 1) (by omega)).trans g46
              have ts : Turned (fun b => b = b8) w8 (w8.setCell ⟨b8, 2, none⟩ (.int .i64 (s2 : Int))) := Turned.set (S := fun b => b = b8) rfl
              have h89 : (w8.setCell ⟨b8, 2, none⟩ (.int .i64 (s2 : Int))).heap[b8]? = some (.cells #[.slice ao3 j cap3, .int .i64 (half : Int), .int .i64 (s2 : Int)] 49 (0, 0)) := set_block h88
              have hz8 := hb68.size
              have h29 := (ts.block w.heap.size (by omega) (by omega)).trans h28
              have h49 := (ts.block (w.heap.size + 1) (by omega) (by omega)).trans h48
              have P9 : PairsAt (w8.setCell ⟨b8, 2, none⟩ (.int .i64 (s2 : Int))) B (.slice ao3 j cap3) qs := PairsAt.turn (ownsRow_below4 P6 hb68) h88 ts
              have hb9 : Below w.heap.size w (w8.setCell ⟨b8, 2, none⟩ (.int .i64 (s2 : Int))) := (hb6.trans (hb68.mono (by omega))).setCell (p := ⟨b8, 2, none⟩) (by show w.heap.size ≤ b8; omega) _
              obtain ⟨m0, m1, m2, mf⟩ := cells_three h88
              have mf2 := mf 2
              obtain ⟨p0, p1, p2, _⟩ := cells_three h28
              obtain ⟨r0, r1, r2, rf⟩ := cells_three h48
              have rf0 := rf 0
              have rf1 := rf 1
              have rf2 := rf 2
              clear rf
              clear mf hb8x hsec2 hbr hbw v0 h88 h28 h48 ts P6 g46 hb6 h86 g26 x0 x1 x2 z0 z1 z2 d0 d1 d2 df0 df1 df2
              have N89 := Lib.hid (And.intro h89 (And.intro h29 (And.intro h49 (And.intro P9 hb9))))
              clear h89 h29 h49 P9 hb9 hb68
              --@o
              by_cases hf2 : s2 ≤ half
              · have hcp : commitP half (used, ps) l = ((s2, qs), 0) := by
                  unfold commitP
                  rw [if_neg (fun hh => hh Hfit.out), if_neg Hne.out, hcl2, if_neg hfits, Hqs.out, Hs2.out, if_pos hf2]
                obtain ⟨y0, y1, y2, hP7, hb7⟩ := fin_three N89.out.2.2.2.1 N89.out.2.2.1 N89.out.2.2.2.2 (Nat.le_succ _) (.slice ao3 j cap3) (.int .i64 (half : Int)) (.int .i64 (s2 : Int))
                have HF := Lib.hid (And.intro hP7 hb7)
                have Hcp := Lib.hid hcp
                have hfi2 : ¬ (half : Int) < (s2 : Int) := by omega
                clear hP7 hb7 hcp hcl2
                --@p
                go_wp2
                exact bodyPost_ret (v := .tuple #[.agg #[.slice ao3 j cap3, .int .i64 (half : Int), .int .i64 (s2 : Int)], .int .i64 0]) (by simp [results, Tryz.results18, go_sem, y0, y1, y2]) rfl ⟨.slice ao3 j cap3, by rw [Hcp.out], by rw [Hcp.out]; exact HF.out.1, HF.out.2⟩
              · have hcp : commitP half (used, ps) l = ((used, ps), 5) := by
                  unfold commitP
                  rw [if_neg (fun hh => hh Hfit.out), if_neg Hne.out, hcl2, if_neg hfits, Hqs.out, Hs2.out, if_neg hf2]
                obtain ⟨y0, y1, y2, _, hb7⟩ := fin_three N89.out.2.2.2.1 N89.out.2.2.1 N89.out.2.2.2.2 (Nat.le_succ _) (.slice ao np cap) (.int .i64 (half : Int)) (.int .i64 (used : Int))
                have hPf := ownsRow_below4 HP.out hb7
                have HF := Lib.hid (And.intro hPf hb7)
                have Hcp := Lib.hid hcp
                have hfi2 : (half : Int) < (s2 : Int) := by omega
                clear hb7 hcp hcl2 hPf
                --@q
                go_wp2
                exact bodyPost_ret (v := .tuple #[.agg #[.slice ao np cap, .int .i64 (half : Int), .int .i64 (used : Int)], .int .i64 5]) (by simp [results, Tryz.results18, go_sem, y0, y1, y2]) rfl ⟨.slice ao np cap, by rw [Hcp.out], by rw [Hcp.out]; exact HF.out.1, HF.out.2⟩
end Go.Proofs.YtcjmpkfcjcoobaaGreat
