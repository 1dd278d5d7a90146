/-
  WalPlays: the walk.
-/
import Derived.Test.YtcjmpkfcjcoobaaGreatX53
namespace Go.Proofs.YtcjmpkfcjcoobaaGreat
open Go.RowKit Go.Maps

section
variable {w0 W W' : World} {B N Nd g fr sz used c : Nat} {d : Dk} {ps : List PairP}
theorem StoreG.bounds (h : StoreG W B N Nd g fr sz used c d ps) : used ≤ sz ∧ sizeP ps ≤ 64 * sz := by
  obtain ⟨m, n, cs, st, ts, h1, h2, h3, h4, h5, _⟩ := h
  have hu := h2.good.used
  have hro := h2.good.room
  have hus := h2.used
  rw [h4] at hu
  rw [h5] at hus
  exact ⟨by omega, sec_len (Nat.le_trans hro hu)⟩
/-- A law's store, behind a turn of a block of the law's own. -/
theorem LawS.turn (h : LawS w0 W N Nd g fr sz used c d ps) {b : Nat} {cs : Array Value} {T : TypeId} (hb : W.heap[b]? = some (.cells cs T (0, 0))) (hN : N < b) (hd : ∀ k, mineD Nd g k → k < b) (h0 : w0.heap.size ≤ b) (t : Turned (fun k => k = b) W W') : LawS w0 W' N Nd g fr sz used c d ps := by
  obtain ⟨⟨m, n, cs2, st, ts, h1, h2⟩, lo⟩ := h
  have hm : m ≠ b := fun e => by
    obtain ⟨es, clock, hm⟩ := h1.map.block
    rw [e, hb] at hm
    cases hm
  exact ⟨⟨m, n, cs2, st, ts, ⟨h1.held.of_turned t (by omega), h1.ok, h1.disk.keep t (fun k hk e => by have := hd k hk; omega), h1.map.keep t hm, h1.apart⟩, h2⟩, lo.trans (t.below lo.size (fun k hk => by omega))⟩
theorem block_mine {b : Nat} {cs : Array Value} {T : TypeId} (hb : W.heap[b]? = some (.cells cs T (0, 0))) (hN : N < b) (hd : ∀ k, mineD Nd g k → k < b) (t : Turned (MineG W N Nd g) W W') : W'.heap[b]? = some (.cells cs T (0, 0)) := by
  refine (t.block b (Array.getElem?_eq_some_iff.1 hb).1 ?_).trans hb
  rintro (e | e | ⟨es, clock, e⟩)
  · omega
  · have := hd b e
    omega
  · rw [hb] at e
    cases e
theorem PairsAt.mine {B0 : Nat} {v : Value} {l : List PairP} (h : PairsAt W B0 v l) (hN : N < B0) (hd : ∀ k, mineD Nd g k → k < B0) (t : Turned (MineG W N Nd g) W W') : PairsAt W' B0 v l := by
  refine t.row h fun b hb hm => ?_
  obtain ⟨h1, cur, h2⟩ := row_block h hb
  rcases hm with rfl | hm | ⟨es, clock, hm⟩
  · omega
  · have := hd b hm
    omega
  · rw [h2] at hm
    cases hm
end

set_option maxRecDepth 100000 in
set_option maxHeartbeats 40000000 in
theorem wplays_walk (c0 c1 c2 : Int) (v : Value) (ls : List (List Ch)) (K P : ByteArray) (w : World) (h : RowsAt w w.heap.size v ls) (hls : ls.length ≤ 1000000000000000) (hsm : ∀ l ∈ ls, SmallC l) (hKm : K.size ≤ maxLen) (hPm : P.size ≤ maxLen) :
    Calls Tryz.prog 4 #[.int .i64 c0, .int .i64 c1, .int .i64 c2, v, .string K, .string P] w fun e w' => e = .returned (.bool true) ∧ Below w.heap.size w w' := by
  have haw := awake8_any w
  have hfew : ∀ W, Below w.heap.size w W → Calls Tryz.prog 13 #[v] W fun e w' => e = .returned (.bool (decide (costs ls ≤ 120))) ∧ Below W.heap.size W w' := fun W hb => few8_any w.heap.size v ls W (h.below hb (Nat.le_refl _)) hb.size hls hsm
  have Hfew := Lib.hid hfew
  obtain ⟨ao, cap, rfl, hc1, hc2, hat⟩ := h
  obtain ⟨n, hn⟩ : ∃ n, ls.length = n := ⟨_, rfl⟩
  have Hn := Lib.hid hn
  rw [hn] at hls Hfew ⊢
  unfold maxLen at hc2 hKm hPm
  have Hat := Lib.hid hat
  clear hfew hsm hat hc1 hc2 hn
  go_enter Tryz.func4, Tryz.ntmps4
  go_wp2_with fail
  refine haw.mono ?_
  rintro e w1 ⟨rfl, hb1⟩
  have hf := Hfew.out w1 hb1
  have Hb1 := Lib.hid hb1
  clear hb1 haw Hfew
  by_cases hc : ¬ costs ls ≤ 120
  · rw [decide_eq_false hc] at hf
    clear hc
    go_wp2_with fail
    refine hf.mono ?_
    rintro e w2 ⟨rfl, hb2⟩
    have hb3 := Hb1.out.trans (hb2.mono Hb1.out.size)
    clear hb2 hf
    go_wp2
    go_ret
    exact ⟨rfl, hb3⟩
  have hc := Classical.not_not.1 hc
  have Hc := Lib.hid hc
  rw [decide_eq_true hc] at hf
  clear hc
  by_cases g0 : 200 < c0
  · go_wp2_with fail
    refine hf.mono ?_
    rintro e w2 ⟨rfl, hb2⟩
    have hb3 := Hb1.out.trans (hb2.mono Hb1.out.size)
    clear hb2 hf
    go_wp2
    go_ret
    exact ⟨rfl, hb3⟩
  by_cases g1 : 400 < c1
  · go_wp2_with fail
    refine hf.mono ?_
    rintro e w2 ⟨rfl, hb2⟩
    have hb3 := Hb1.out.trans (hb2.mono Hb1.out.size)
    clear hb2 hf
    go_wp2
    go_ret
    exact ⟨rfl, hb3⟩
  by_cases g2 : c2 < 0
  · go_wp2_with fail
    refine hf.mono ?_
    rintro e w2 ⟨rfl, hb2⟩
    have hb3 := Hb1.out.trans (hb2.mono Hb1.out.size)
    clear hb2 hf
    go_wp2
    go_ret
    exact ⟨rfl, hb3⟩
  by_cases g3 : 100 < c2
  · go_wp2_with fail
    refine hf.mono ?_
    rintro e w2 ⟨rfl, hb2⟩
    have hb3 := Hb1.out.trans (hb2.mono Hb1.out.size)
    clear hb2 hf
    go_wp2
    go_ret
    exact ⟨rfl, hb3⟩
  by_cases g4 : 200 < K.size
  · go_wp2_with fail
    refine hf.mono ?_
    rintro e w2 ⟨rfl, hb2⟩
    have hb3 := Hb1.out.trans (hb2.mono Hb1.out.size)
    clear hb2 hf
    go_wp2
    go_ret
    exact ⟨rfl, hb3⟩
  by_cases g5 : 200 < P.size
  · go_wp2_with fail
    refine hf.mono ?_
    rintro e w2 ⟨rfl, hb2⟩
    have hb3 := Hb1.out.trans (hb2.mono Hb1.out.size)
    clear hb2 hf
    go_wp2
    go_ret
    exact ⟨rfl, hb3⟩
  obtain ⟨mo, rfl⟩ : ∃ mo : Nat, c2 = (mo : Int) := ⟨c2.toNat, by omega⟩
  by_cases hbad : ¬ (0 ≤ c0 ∧ 4 ≤ c1 ∧ c1 % 2 = 0)
  · have hbc : c0 < 0 ∨ c1 < 4 ∨ c1.tmod 2 ≠ 0 := by
      by_cases a : c0 < 0
      · exact .inl a
      · by_cases b : c1 < 4
        · exact .inr (.inl b)
        · refine .inr (.inr ?_)
          rw [Int.tmod_eq_emod_of_nonneg (by omega)]
          omega
    obtain ⟨F, hF⟩ : ∃ F : Nat, max c0 0 = (F : Int) := ⟨(max c0 0).toNat, by omega⟩
    obtain ⟨C, hC⟩ : ∃ C : Nat, max c1 0 = (C : Int) := ⟨(max c1 0).toNat, by omega⟩
    have hF2 : F ≤ 200 := by omega
    have hC2 : C ≤ 400 := by omega
    have hm1 : mo ≤ 100 := by omega
    go_wp2_with fail
    refine hf.mono ?_
    rintro e w2 ⟨rfl, hb2⟩
    have hb3 := Hb1.out.trans (hb2.mono Hb1.out.size)
    clear hb2 hf
    by_cases hs1 : F + C + mo < 1
    · have hs1i : (F : Int) + (C : Int) + (mo : Int) < 1 := by omega
      go_wp2
      go_ret
      exact ⟨rfl, hb3⟩
    · have hs1i : ¬ (F : Int) + (C : Int) + (mo : Int) < 1 := by omega
      have hnew := snew_any w2.heap.size w2 (Nat.le_refl _) (F + C + mo) (by omega) (by omega)
      simp only [Int.natCast_add] at hnew
      have Hb3 := Lib.hid hb3
      clear hb3
      --@v
      go_wp2_with fail
      refine hnew.mono ?_
      rintro e w3 ⟨Nd, g, rfl, hD, hb4, _⟩
      have Hb5 := Lib.hid (Hb3.out.trans (hb4.mono Hb3.out.size))
      have hmk := make_bad Nd c0 c1 hbc w3
      have hop := open_bad Nd c0 c1 hbc w3
      clear hD hb4 hnew
      --@w
      go_wp2_with fail
      refine hmk.mono ?_
      rintro e w4 ⟨rfl, h4⟩
      obtain rfl := h4.symm
      clear h4 hmk
      by_cases a : c0 < 0
      · go_wp2_with fail
        refine hop.mono ?_
        rintro e w5 ⟨rfl, h5⟩
        obtain rfl := h5.symm
        clear h5
        go_wp2
        go_ret
        exact ⟨rfl, Hb5.out⟩
      · by_cases b : c1 < 4
        · go_wp2_with fail
          refine hop.mono ?_
          rintro e w5 ⟨rfl, h5⟩
          obtain rfl := h5.symm
          clear h5
          go_wp2
          go_ret
          exact ⟨rfl, Hb5.out⟩
        · have hr : (c1 % 2 != 0) = true := by
            rw [show c1 % 2 = 1 by omega]
            rfl
          have hr2 : (c1.tmod 2 != 0) = true := by
            rw [Int.tmod_eq_emod_of_nonneg (by omega)]
            exact hr
          go_wp2_with fail
          refine hop.mono ?_
          rintro e w5 ⟨rfl, h5⟩
          obtain rfl := h5.symm
          clear h5
          go_wp2
          go_ret
          exact ⟨rfl, Hb5.out⟩
  · have hgood := Classical.not_not.1 hbad
    obtain ⟨fr, rfl⟩ : ∃ fr : Nat, c0 = (fr : Int) := ⟨c0.toNat, by omega⟩
    obtain ⟨ct, rfl⟩ : ∃ ct : Nat, c1 = (ct : Int) := ⟨c1.toNat, by omega⟩
    have hev : ct % 2 = 0 := by omega
    have hct : 4 ≤ ct ∧ ct ≤ 400 := by omega
    have hfr : fr ≤ 200 := by omega
    have hmo : mo ≤ 100 := by omega
    have hrem : ((ct : Int) % 2 != 0) = false := by
      rw [show (ct : Int) % 2 = 0 by omega]
      rfl
    have hm1 : max (fr : Int) 0 = (fr : Int) := by omega
    have hm2 : max (ct : Int) 0 = (ct : Int) := by omega
    clear hgood hbad
    go_wp2_with fail
    refine hf.mono ?_
    rintro e w2 ⟨rfl, hb2⟩
    have hb3 := Hb1.out.trans (hb2.mono Hb1.out.size)
    clear hb2 hf
    have Hb3 := Lib.hid hb3
    have hnew := snew_any w2.heap.size w2 (Nat.le_refl _) (fr + ct + mo) (by omega) (by omega)
    clear hb3
    simp only [Int.natCast_add] at hnew
    have hszI : (1 : Int) ≤ (fr : Int) + (ct : Int) + (mo : Int) := by omega
    --@a
    go_wp2_with fail
    refine hnew.mono ?_
    rintro e w3 ⟨Nd, g, rfl, hD, hb3, hlo⟩
    have hmk := make_good w2.heap.size Nd g (newD (fr + ct + mo)) w3 hD hb3.size (Int.le_refl _) rfl (Int.le_refl _) (Int.le_refl _) fr ct hct.1 hev (by omega) (by rw [(show (newD (fr + ct + mo)).ss.length = fr + ct + mo from List.length_replicate ..)]; omega)
    obtain ⟨hz, hhz⟩ : ∃ hz, ct / 2 = hz := ⟨_, rfl⟩
    have h2z : 2 * hz = ct := by omega
    rw [hhz] at hmk
    have HD3 := Lib.hid (And.intro hb3 hlo)
    clear hD hb3 hlo hnew
    --@b
    go_wp2_with fail
    refine hmk.mono ?_
    rintro e w4 ⟨N, d, rfl, hS, hl, _, hN4, t4⟩
    have hL4 : LawS w2 w4 N Nd g fr hz 1 0 d [] := ⟨hS, HD3.out.1.trans (t4.below HD3.out.1.size fun b hb => HD3.out.2 b hb)⟩
    have HL4 := Lib.hid hL4
    have hrm := rmake_any ct (by omega) w4
    unfold storeV at hrm
    rw [hhz] at hrm
    have Hl4 : Hid (d.ss.length = fr + ct + mo) := Lib.hid (hl.trans (show (newD (fr + ct + mo)).ss.length = fr + ct + mo from List.length_replicate ..))
    clear hS hl t4 hL4 hmk hN4 HD3
    --@c
    go_wp2_with fail
    refine hrm.mono ?_
    rintro e w5 ⟨rfl, hb5⟩
    have hL5 := HL4.out.below hb5
    have h8 := heap_alloc_new w5 (.cells #[.slice none 0 0, .int .i64 (hz : Int), .int .i64 1] 49)
    have ha8 := (Below.refl w5.heap.size w5).alloc (Nat.le_refl _) (.cells #[.slice none 0 0, .int .i64 (hz : Int), .int .i64 1] 49)
    have hL6 := hL5.below ha8
    have hN6 : N < w5.heap.size ∧ ∀ b, mineD Nd g b → b < w5.heap.size := ⟨hL5.s.ltN.1, fun b hb => (hL5.s.ltN.2.2 b hb).2⟩
    have HN6 := Lib.hid hN6
    clear hrm hb5 hL5 HL4 hN6
    --@d
    go_wp2_with fail
    --@e
    generalize w5.alloc (.cells #[.slice none 0 0, .int .i64 (hz : Int), .int .i64 1] 49) = w6 at h8 ha8 hL6 ⊢
    have hbm2 : w2.heap.size ≤ w5.heap.size := by have := HN6.out.1; have := hL6.s.ltN.2.1; omega
    obtain ⟨bm, hbm⟩ : ∃ bm, w5.heap.size = bm := ⟨_, rfl⟩
    rw [hbm] at h8 HN6 hbm2 ⊢
    have HL6 := Lib.hid hL6
    have H86 := Lib.hid h8
    have hn120 : n ≤ 120 := by
      have h1 := costs_len ls
      have h2 := Hc.out
      have h3 := Hn.out
      omega
    clear h8 ha8 hL6 hbm hhz hrem hm1 hm2 hszI hev w5
    go_loopw [21] (fun iv wr => ∃ (i used np : Nat) (ps : List PairP) (aL : Option Addr) (cL : Nat) (d : Dk), i ≤ n ∧ iv = .int .i64 i ∧ Hid (LawS w2 wr N Nd g fr hz used i d ps) ∧ Hid (PairsAt wr bm (.slice aL np cL) ps ∧ ps.length = np) ∧ Hid (wr.heap[bm]? = some (.cells #[.slice aL np cL, .int .i64 (hz : Int), .int .i64 (used : Int)] 49 (0, 0))) ∧ Hid (ps.length ≤ costs (ls.take i)) ∧ Hid (d.ss.length = fr + ct + mo)) (fun iv _ => n - (intOf iv).toNat)
    case atStart => exact ⟨0, 1, 0, [], none, 0, d, by omega, rfl, Lib.hid HL6.out, Lib.hid ⟨World.ownsRow_nil _ _ _ _, rfl⟩, Lib.hid H86.out, Lib.hid (by simp), Lib.hid Hl4.out⟩
    case round =>
      obtain ⟨i, used, np, ps, aL, cL, d, hi, rfl, HL, HP, H8, Hps, Hd⟩ := hrel
      clear HL6 H86 Hl4
      obtain ⟨x0, x1, x2, xf⟩ := cells_three H8.out
      have hbz : bm < wr.heap.size := (Array.getElem?_eq_some_iff.1 H8.out).1
      have hBw : Below w.heap.size w wr := Hb3.out.trans (HL.out.lo.mono Hb3.out.size)
      have hps120 : ps.length ≤ 120 := by
        have h1 := costs_le ls i
        have h2 := Hc.out
        have h3 := Hps.out
        omega
      by_cases hlt : i < n
      · have hil : i < ls.length := by rw [Hn.out]; exact hlt
        obtain ⟨g2, off2, v', rfl, hg2, hcl, hch⟩ := Hat.out i hil
        have hrow : ∀ W, Below wr.heap.size wr W → W.cell? ⟨g2, off2 + i, none⟩ = some v' := fun W hb => ((hBw.trans (hb.mono hBw.size)).cell (p := ⟨g2, off2 + i, none⟩) hg2).trans hcl
        have hgz : g2 < wr.heap.size := by have := hBw.size; omega
        have hmem := costR_mem (List.getElem_mem hil)
        have htk := costs_take ls i hil
        have hcr : costR ls[i] ≤ 120 := by
          have := Hc.out
          omega
        obtain ⟨l, hl⟩ : ∃ l, ls[i] = l := ⟨_, rfl⟩
        rw [hl] at hch hcr htk
        have hll := costR_len l
        have hlc := fun W (hL : LawS w2 W N Nd g fr hz used i d ps) => law_commit hL (by omega) w.heap.size v' l (hch.below Hb3.out (Nat.le_refl _)) Hb3.out.size hcr
        have hlen := len_commit hz used ps l
        obtain ⟨hu1, hs1⟩ := HL.out.s.bounds
        have hsb := size_behind l ps
        have hz200 : hz ≤ 200 := by omega
        have hOf : Hid (∀ W, Below wr.heap.size wr W → Calls Tryz.prog 10 #[v'] W fun e w' => ∃ v3, e = .returned v3 ∧ ChsAt w' w'.heap.size v3 l ∧ Below wr.heap.size wr w' ∧ Below W.heap.size W w') := Lib.hid fun W hb => by
          have hbW := hBw.trans (hb.mono hBw.size)
          refine (of8_any w.heap.size v' l W (hch.below hbW (Nat.le_refl _)) hbW.size (by omega)).mono ?_
          rintro e w' ⟨v3, rfl, ho, hb2⟩
          exact ⟨v3, rfl, ho.at, hb.trans (hb2.mono hb.size), hb2⟩
        have hrc := fun W v3 (hb : Below wr.heap.size wr W) (ho : ChsAt W W.heap.size v3 l) => rcommit_any bm W.heap.size (.slice aL np cL) v3 ps l hz used W (ownsRow_below4 HP.out.1 hb) (by have := hb.size; omega) ho (Nat.le_refl _) (by omega) (by omega) (fun hf => by have := cost_print l hf; omega) (fun hf => by have := cost_print l hf; omega) (by omega) (by omega)
        obtain ⟨cp, hcp⟩ : ∃ cp, commitP hz (used, ps) l = cp := ⟨_, rfl⟩
        obtain ⟨⟨u', ps'⟩, code⟩ := cp
        rw [hcp] at hlen
        simp only [hcp] at hlc hrc
        have hps' : ps'.length ≤ costs (ls.take (i + 1)) := by
          have h1 : ps'.length ≤ ps.length + l.length := hlen
          have := Hps.out
          omega
        have hCm : Hid (∀ W v3, Below wr.heap.size wr W → ChsAt W W.heap.size v3 l → Calls Tryz.prog 18 #[.agg #[.slice aL np cL, .int .i64 (hz : Int), .int .i64 (used : Int)], v3] W fun e w' => ∃ aN nN cN, e = .returned (.tuple #[.agg #[.slice aN nN cN, .int .i64 (hz : Int), .int .i64 (u' : Int)], .int .i64 code]) ∧ PairsAt w' bm (.slice aN nN cN) ps' ∧ ps'.length = nN ∧ Below wr.heap.size wr w' ∧ Below W.heap.size W w') := Lib.hid fun W v3 hb ho => by
          refine (hrc W v3 hb ho).mono ?_
          rintro e w' ⟨vL', rfl, hP', hb2⟩
          obtain ⟨aN, cN, rfl, _⟩ := hP'.slice
          exact ⟨aN, _, cN, rfl, hP', rfl, hb.trans (hb2.mono hb.size), hb2⟩
        have Hlc := Lib.hid hlc
        have Hps' := Lib.hid hps'
        obtain ⟨ao', cap', rfl, hch2⟩ := hch
        obtain ⟨nl, hnl⟩ : ∃ nl, l.length = nl := ⟨_, rfl⟩
        rw [hnl] at hrow hOf Hlc
        have kS : Hid (∀ W, Below wr.heap.size wr W → W.cell? ⟨bm, 0, none⟩ = some (.slice aL np cL) ∧ W.cell? ⟨bm, 1, none⟩ = some (.int .i64 (hz : Int)) ∧ W.cell? ⟨bm, 2, none⟩ = some (.int .i64 (used : Int)) ∧ W.cell? ⟨g2, off2 + i, none⟩ = some (.slice ao' nl cap')) := Lib.hid fun W hb => by
          obtain ⟨q0, q1, q2, _⟩ := cells_three ((hb.block bm hbz).trans H8.out)
          exact ⟨q0, q1, q2, hrow W hb⟩
        have hd1 : Below wr.heap.size wr wr.drew := Below.drew (Below.refl _ wr)
        have s0 := kS.out _ hd1
        have hset : ∀ (W : World) (b j : Nat) (x : Value), Below wr.heap.size wr W → wr.heap.size ≤ b → Below wr.heap.size wr (W.setCell ⟨b, j, none⟩ x) := fun W b j x hb hw => hb.setCell (p := ⟨b, j, none⟩) hw x
        have hcal : ∀ (W : World) (o : Obj) (v3 : Value), ChsAt W W.heap.size v3 l → ChsAt (W.alloc o) (W.alloc o).heap.size v3 l := fun W o v3 h => (h.below ((Below.refl _ W).alloc (Nat.le_refl _) o) (Nat.le_refl _)).up (by simp)
        have Hrow := Lib.hid hrow
        clear hch2 hnl hcp hlc hrc hps' hlen hsb hs1 hl hmem htk hcr hll hcl hrow xf hil
        --@f
        go_wp2_with fail
        --@g
        go_region_held3 (fun W => W.cell? ⟨bm, 0, none⟩ = some (.slice aL np cL) ∧ W.cell? ⟨bm, 1, none⟩ = some (.int .i64 (hz : Int)) ∧ W.cell? ⟨bm, 2, none⟩ = some (.int .i64 (used : Int)) ∧ W.cell? ⟨g2, off2 + i, none⟩ = some (.slice ao' nl cap'))
          (first | with_reducible exact s0 | with_reducible exact s7 | with_reducible exact s8 | exact kS.out _ (Below.alloc (by assumption) (Below.size (by assumption)) _) | exact kS.out _ (hset _ _ _ _ (hset _ _ _ _ (hset _ _ _ _ hb8 (Nat.le_refl _)) (Nat.le_refl _)) (Nat.le_refl _)) | exact kS.out _ (hset _ _ _ _ (hset _ _ _ _ (hset _ _ _ _ hb8 hb7.size) hb7.size) hb7.size))
          (first
            | (go_at_call 10; refine (hOf.out _ (by first | exact hd1 | exact Below.alloc hd1 hd1.size _)).mono ?_; rintro e w7 ⟨v3, rfl, hc7, hb7, hB7⟩; have s7 := kS.out _ hb7; have Hc7 := Lib.hid hc7; clear hc7; try (obtain ⟨a0, a1, a2, af⟩ := cells_three ((hB7.block wr.heap.size (by simp)).trans (heap_alloc_new wr.drew _)); have zA := (hB7.block wr.heap.size (by simp)).trans (heap_alloc_new wr.drew _); have af0 := af 0; have af1 := af 1; have af2 := af 2; clear af))
            | (go_at_call 18; refine (hCm.out _ _ (by first | exact hb7 | exact Below.alloc hb7 hb7.size _) (by first | exact Hc7.out | exact hcal _ _ _ Hc7.out)).mono ?_; rintro e w8 ⟨aN, nN, cN, rfl, hP8, hn8, hb8, hB8⟩; have s8 := kS.out _ hb8; have HP8 := Lib.hid (And.intro hP8 hn8); clear hP8 hn8; (try (have zA8 := (hB8.block wr.heap.size (by have := hB7.size; simp at this ⊢; omega)).trans zA; obtain ⟨e0, e1, e2, ef⟩ := cells_three zA8; have ef0 := ef 0; have ef1 := ef 1; have ef2 := ef 2; clear ef zA)); (try (have zB8 := (hB8.block w7.heap.size (by simp)).trans (heap_alloc_new w7 _); obtain ⟨f0, f1, f2, ff⟩ := cells_three zB8; have ff0 := ff 0; have ff1 := ff 1; have ff2 := ff 2; clear ff))))
        --@h
        all_goals
          rename_i hHeld
          clear hHeld
          first
            | (have h22 := heap_three (v0 := .slice aN nN cN) (v1 := .int .i64 (hz : Int)) (v2 := .int .i64 (u' : Int)) zA8
               have hP22 := PairsAt.turn HP8.out.1 zA8 (turned_three (w := w8) (b := wr.heap.size) (v0 := .slice aN nN cN) (v1 := .int .i64 (hz : Int)) (v2 := .int .i64 (u' : Int)) (S := fun k => k = wr.heap.size) rfl)
               have hb22 := below_three (b := wr.heap.size) (v0 := .slice aN nN cN) (v1 := .int .i64 (hz : Int)) (v2 := .int .i64 (u' : Int)) hb8 (Nat.le_refl _) hb8.size
               unfold set3 at h22 hP22 hb22
               have hbb : bm < wr.heap.size := by have := hb7.size; omega
               generalize (((w8.setCell ⟨wr.heap.size, 0, none⟩ (.slice aN nN cN)).setCell ⟨wr.heap.size, 1, none⟩ (.int .i64 (hz : Int))).setCell ⟨wr.heap.size, 2, none⟩ (.int .i64 (u' : Int))) = W22 at h22 hP22 hb22 ⊢
               obtain ⟨b22, hb22e⟩ : ∃ b22, wr.heap.size = b22 := ⟨_, rfl⟩; rw [hb22e] at h22 hbb ⊢; clear hb22e)
            | (have h22 := heap_three (v0 := .slice aN nN cN) (v1 := .int .i64 (hz : Int)) (v2 := .int .i64 (u' : Int)) zB8
               have hP22 := PairsAt.turn HP8.out.1 zB8 (turned_three (w := w8) (b := w7.heap.size) (v0 := .slice aN nN cN) (v1 := .int .i64 (hz : Int)) (v2 := .int .i64 (u' : Int)) (S := fun k => k = w7.heap.size) rfl)
               have hb22 := below_three (b := w7.heap.size) (v0 := .slice aN nN cN) (v1 := .int .i64 (hz : Int)) (v2 := .int .i64 (u' : Int)) hb8 (by have := hb7.size; omega) hb8.size
               unfold set3 at h22 hP22 hb22
               have hbb : bm < w7.heap.size := by have := hb7.size; omega
               generalize (((w8.setCell ⟨w7.heap.size, 0, none⟩ (.slice aN nN cN)).setCell ⟨w7.heap.size, 1, none⟩ (.int .i64 (hz : Int))).setCell ⟨w7.heap.size, 2, none⟩ (.int .i64 (u' : Int))) = W22 at h22 hP22 hb22 ⊢
               generalize w7.heap.size = b22 at h22 hbb ⊢)
            | (have h22 := heap_alloc_new w8 (.cells #[.slice aN nN cN, .int .i64 (hz : Int), .int .i64 (u' : Int)] 49)
               have hb22 : Below wr.heap.size wr (w8.alloc (.cells #[.slice aN nN cN, .int .i64 (hz : Int), .int .i64 (u' : Int)] 49)) := hb8.alloc hb8.size _
               have hP22 := ownsRow_below4 HP8.out.1 ((Below.refl _ w8).alloc (Nat.le_refl _) (.cells #[.slice aN nN cN, .int .i64 (hz : Int), .int .i64 (u' : Int)] 49))
               have hbb : bm < w8.heap.size := by have := hb8.size; omega
               generalize w8.alloc (.cells #[.slice aN nN cN, .int .i64 (hz : Int), .int .i64 (u' : Int)] 49) = W22 at h22 hb22 hP22 ⊢
               generalize w8.heap.size = b22 at h22 hbb ⊢)
          --@k
          have hn8 := HP8.out.2
          have hb22z : b22 < W22.heap.size := (Array.getElem?_eq_some_iff.1 h22).1
          obtain ⟨y0, y1, y2, yf⟩ := cells_three h22
          have hq : W22.heap[bm]? = _ := (hb22.block bm hbz).trans H8.out
          obtain ⟨q0, q1, q2, qf⟩ := cells_three hq
          have qf0 := qf 0
          have qf1 := qf 1
          have qf2 := qf 2
          have hne22 : ¬ bm = b22 := by omega
          have hneg : ¬ bm = g2 := by have := Hb3.out.size; omega
          have r22 := Hrow.out W22 hb22
          have hg22 : g2 < W22.heap.size := by have := hb22.size; omega
          have t23 := turned_three (w := W22) (b := bm) (v0 := .slice aN nN cN) (v1 := .int .i64 (hz : Int)) (v2 := .int .i64 (u' : Int)) (S := fun k => k = bm) rfl
          have L23 := LawS.turn (HL.out.below hb22) hq HN6.out.1 HN6.out.2 hbm2 t23
          have h23 := heap_three (v0 := .slice aN nN cN) (v1 := .int .i64 (hz : Int)) (v2 := .int .i64 (u' : Int)) hq
          have P23 := PairsAt.turn hP22 hq t23
          have hlc23 := Hlc.out _ L23
          unfold set3 at L23 h23 P23 hlc23
          have r23 : (((W22.setCell ⟨bm, 0, none⟩ (.slice aN nN cN)).setCell ⟨bm, 1, none⟩ (.int .i64 (hz : Int))).setCell ⟨bm, 2, none⟩ (.int .i64 (u' : Int))).cell? ⟨g2, off2 + i, none⟩ = some (.slice ao' nl cap') := (World.cell?_of_block (t23.block g2 hg22 (by omega))).trans r22
          have H23 := Lib.hid (And.intro h23 P23)
          clear L23 h23 P23 t23 yf qf hq h22 hP22 hb22 s0 s7 s8 hset hcal Hrow kS hOf hCm Hc7 hb7 hB7 hb8 hB8 HP8 hd1 HL HP x0 x1 x2
          --@l
          go_wp2_with fail
          refine hlc23.mono ?_
          rintro e W24 ⟨d', rfl, hL24, hl24, t24⟩
          have h24 := block_mine H23.out.1 HN6.out.1 HN6.out.2 t24
          have P24 := PairsAt.mine H23.out.2 HN6.out.1 HN6.out.2 t24
          have hget := law_get hL24 K.data.toList (by show K.size ≤ 1000000; omega)
          have hd24 : Hid (d'.ss.length = fr + ct + mo) := Lib.hid (hl24.trans Hd.out)
          obtain ⟨G, hG⟩ : ∃ G, textQ ((findP ps' K.data.toList).getD []) = G := ⟨_, rfl⟩
          obtain ⟨bb, hbb2⟩ : ∃ bb, (findP ps' K.data.toList).isSome = bb := ⟨_, rfl⟩
          rw [hG, hbb2, show textQ K.data.toList = K from rfl] at hget
          have HA := Lib.hid (And.intro hL24 (And.intro h24 P24))
          have HG := Lib.hid (And.intro hG hbb2)
          obtain ⟨m0, m1, m2, _⟩ := cells_three h24
          clear hL24 hl24 t24 h24 P24 hlc23 H23 r22 r23 y0 y1 y2 q0 q1 q2 qf0 qf1 qf2 hne22 hG hbb2 Hlc Hd H8
          --@m
          go_wp2_with fail
          refine hget.mono ?_
          rintro e W25 ⟨rfl, hb25⟩
          have h25 := (hb25.block bm (Array.getElem?_eq_some_iff.1 HA.out.2.1).1).trans HA.out.2.1
          have P25 := ownsRow_below4 HA.out.2.2 hb25
          have hfd := rfind_any bm _ ps' K.data.toList W25 P25
          unfold foundV at hfd
          rw [HG.out.1, HG.out.2, show textQ K.data.toList = K from rfl] at hfd
          obtain ⟨u0, u1, u2, _⟩ := cells_three h25
          have HB := Lib.hid (And.intro (HA.out.1.below hb25) (And.intro h25 P25))
          clear hget hb25 h25 P25 HA m0 m1 m2
          --@n
          go_wp2_with fail
          refine hfd.mono ?_
          rintro e W26 ⟨rfl, hb26⟩
          have h26 := (hb26.block bm (Array.getElem?_eq_some_iff.1 HB.out.2.1).1).trans HB.out.2.1
          have P26 := ownsRow_below4 HB.out.2.2 hb26
          have L26 := HB.out.1.below hb26
          clear hfd hb26 HB u0 u1 u2
          obtain ⟨ks, hks⟩ : ∃ ks, keysP ps' P.data.toList = ks := ⟨_, rfl⟩
          have hkl : ks.length ≤ 1000000 := by
            rw [← hks]
            unfold keysP
            refine Nat.le_trans (List.length_filter_le ..) ?_
            rw [List.length_map]
            have h1 := Hps'.out
            have h2 := costs_le ls (i + 1)
            have h3 := Hc.out
            omega
          have hKs : Hid (∀ W, Below W26.heap.size W26 W → Calls Tryz.prog 23 #[.pointer (some ⟨N, 0, none⟩), .string P] W fun e w' => ∃ v1, e = .returned v1 ∧ TextsW w' v1 ks.length ks ∧ Below W26.heap.size W26 w' ∧ Below W.heap.size W w') := Lib.hid fun W hb => by
            refine (law_keys (L26.below hb) (by omega) P.data.toList).mono ?_
            rintro e w' ⟨v1, rfl, ho, hb2⟩
            rw [hks] at ho
            exact ⟨v1, rfl, OwnT9.texts ho rfl, hb.trans (hb2.mono hb.size), hb2⟩
          have hRs : Hid (∀ W, Below W26.heap.size W26 W → Calls Tryz.prog 24 #[.agg #[.slice aN nN cN, .int .i64 (hz : Int), .int .i64 (u' : Int)], .string P] W fun e w' => ∃ v1, e = .returned v1 ∧ TextsW w' v1 ks.length ks ∧ Below W26.heap.size W26 w' ∧ Below W.heap.size W w') := Lib.hid fun W hb => by
            refine (rkeys_any bm (.slice aN nN cN) ps' hz u' P W (ownsRow_below4 P26 hb) (by have h1 := Hps'.out; have h2 := costs_le ls (i + 1); have h3 := Hc.out; omega) (fun p hp => by have := (L26.s.fit p hp).1; omega)).mono ?_
            rintro e w' ⟨v1, rfl, ho, hb2⟩
            rw [hks] at ho
            exact ⟨v1, rfl, OwnT9.texts ho rfl, hb.trans (hb2.mono hb.size), hb2⟩
          have kS2 : Hid (∀ W, Below W26.heap.size W26 W → W.cell? ⟨bm, 0, none⟩ = some (.slice aN nN cN) ∧ W.cell? ⟨bm, 1, none⟩ = some (.int .i64 (hz : Int)) ∧ W.cell? ⟨bm, 2, none⟩ = some (.int .i64 (u' : Int))) := Lib.hid fun W hb => by
            obtain ⟨q0, q1, q2, _⟩ := cells_three ((hb.block bm (Array.getElem?_eq_some_iff.1 h26).1).trans h26)
            exact ⟨q0, q1, q2⟩
          have hd2 : Below W26.heap.size W26 W26.drew := Below.drew (Below.refl _ W26)
          have s0 := kS2.out _ hd2
          have hGf : (G.toList != G.toList) = false := bne_self_eq_false _
          have hbf : (bb != bb) = false := bne_self_eq_false _
          have Hkl := Lib.hid hkl
          have HC := Lib.hid (And.intro L26 (And.intro h26 P26))
          clear L26 h26 P26 hks hkl HG
          --@o
          go_wp2_with fail
          --@p
          go_region_held3 (fun W => W.cell? ⟨bm, 0, none⟩ = some (.slice aN nN cN) ∧ W.cell? ⟨bm, 1, none⟩ = some (.int .i64 (hz : Int)) ∧ W.cell? ⟨bm, 2, none⟩ = some (.int .i64 (u' : Int)))
            (first | with_reducible exact s0 | with_reducible exact s5 | with_reducible exact s6 | with_reducible exact s9)
            (first
              | (go_at_call 23; refine (hKs.out _ hd2).mono ?_; rintro e w5 ⟨v1, rfl, T1, hb5, hB5⟩; have s5 := kS2.out _ hb5; have HT1 := Lib.hid T1; have Hb5 := Lib.hid hb5; clear T1 hb5 hB5)
              | (go_at_call 24; refine (hRs.out _ Hb5.out).mono ?_; rintro e w6 ⟨v2, rfl, T2, hb6, hB6⟩; have s6 := kS2.out _ hb6; have HT1b := Lib.hid (HT1.out.below hB6); have HT2 := Lib.hid T2; have Hb6 := Lib.hid hb6; clear T2 hb6 hB6)
              | (go_at_call 22; refine (texts_same HT1b.out HT2.out Hkl.out).mono ?_; rintro e w9 ⟨rfl, hb9⟩; have hc9 := Hb6.out.trans (hb9.mono Hb6.out.size); have s9 := kS2.out _ hc9; have Hc9 := Lib.hid hc9; clear hb9 hc9))
          --@q
          rename_i hHeld2
          clear hHeld2 s0 s5 s6 s9 hd2 hKs hRs kS2 HT1 HT1b HT2 Hb5 Hb6 hGf hbf
          have HL9 := Lib.hid (HC.out.1.below Hc9.out)
          have H99 := Lib.hid ((Hc9.out.block bm (Array.getElem?_eq_some_iff.1 HC.out.2.1).1).trans HC.out.2.1)
          have HP9 := Lib.hid (And.intro (ownsRow_below4 HC.out.2.2 Hc9.out) hn8)
          clear HC Hc9 hn8
          --@r
          go_wp2
          go_roundw
          case rel => exact ⟨i + 1, u', nN, ps', aN, cN, d', by omega, by go_num, HL9, HP9, H99, Hps', hd24⟩
          case measure => simp [intOf]; omega
      · obtain rfl : i = n := by omega
        have co := open_good wr w2.heap.size N Nd g fr hz used i d ps HL.out.s HL.out.lo.size (by omega)
        rw [h2z] at co
        have hfp := HL.out.s.fit
        obtain ⟨ms, n2, cs, st, hst, hn2, _⟩ := HL.out.s.at
        have ht1 := fun W (hb : Below wr.heap.size wr W) => tells8_any w2.heap.size bm N Nd g ms n2 cs st d ps hz used W (hst.below hb) (by omega) (.slice aL np cL) (ownsRow_below4 HP.out.1 hb) (by omega) hfp
        have ht2 := fun W N2 m2 n3 cs2 st2 (hb : Below wr.heap.size wr W) (hs2 : StoreAt W w2.heap.size N2 Nd g m2 n3 cs2 st2 d ps) (hn3 : n3 ≤ 10000000) => tells8_any w2.heap.size bm N2 Nd g m2 n3 cs2 st2 d ps hz used W hs2 (by omega) (.slice aL np cL) (ownsRow_below4 HP.out.1 hb) (by omega) hfp
        unfold storeV at ht1 ht2
        have Ht1 := Lib.hid ht1
        have Ht2 := Lib.hid ht2
        have HBw := Lib.hid hBw
        clear ht1 ht2 hst hn2 hfp hBw xf HL HP Hps Hd Hat
        --@s
        go_wp2_with fail
        refine co.mono ?_
        rintro e w7 ⟨N2, rfl, ⟨m2, n3, cs2, st2, hst2, hn3⟩, _, hb7⟩
        have h7 := (hb7.block bm hbz).trans H8.out
        obtain ⟨y0, y1, y2, _⟩ := cells_three h7
        have ht1 := Ht1.out w7 hb7
        have Hs2 := Lib.hid (And.intro hst2 (And.intro hn3 (And.intro hb7 h7)))
        clear hst2 hn3 hb7 h7 co x0 x1 x2 Ht1
        --@t
        go_wp2_with fail
        refine ht1.mono ?_
        rintro e w8 ⟨rfl, hb8⟩
        have hb78 := Hs2.out.2.2.1.trans (hb8.mono Hs2.out.2.2.1.size)
        have h8 := (hb78.block bm hbz).trans H8.out
        obtain ⟨q0, q1, q2, _⟩ := cells_three h8
        have ht2 := Ht2.out w8 N2 m2 n3 cs2 st2 hb78 (Hs2.out.1.below hb8) Hs2.out.2.1
        have Hb78 := Lib.hid hb78
        clear hb8 hb78 h8 ht1 y0 y1 y2 Ht2
        --@u
        go_wp2_with (go_at_call 25; refine ht2.mono ?_; rintro e w9 ⟨rfl, hb9⟩)
        go_ret
        have h1 := Hb78.out.trans (hb9.mono Hb78.out.size)
        exact ⟨rfl, HBw.out.trans (h1.mono HBw.out.size)⟩
end Go.Proofs.YtcjmpkfcjcoobaaGreat
