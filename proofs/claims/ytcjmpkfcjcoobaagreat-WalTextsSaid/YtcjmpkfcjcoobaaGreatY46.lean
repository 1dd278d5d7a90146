/-
  Texts of this proof, put together: StR, StS.
-/
import Derived.Test.YtcjmpkfcjcoobaaGreatY45
namespace Go.Proofs.YtcjmpkfcjcoobaaGreat
open Go.RowKit Go.Maps

/-- A good store in an area: so many sectors of its half are used, behind so many commits. -/
def StoreG (W : World) (B N Nd g fr sz used c : Nat) (d : Dk) (ps : List PairP) : Prop :=
  ∃ m n cs st ts, StoreAt W B N Nd g m n cs st d ps ∧ GoodS d st ts ps ∧ st.fr = fr ∧ st.sz = sz ∧ st.pl.at_ = used ∧ B ≤ N ∧ B ≤ m ∧ n ≤ 200 * c ∧ st.pl.gen ≤ c + 1 ∧ d.wr ≤ 1003 * ((c : Int) + 1)
section
variable {W W' : World} {B N Nd g fr sz used c : Nat} {d : Dk} {ps : List PairP}
theorem StoreG.below (h : StoreG W B N Nd g fr sz used c d ps) (hb : Below W.heap.size W W') : StoreG W' B N Nd g fr sz used c d ps := by
  obtain ⟨m, n, cs, st, ts, h1, h2⟩ := h
  exact ⟨m, n, cs, st, ts, h1.below hb, h2⟩
theorem StoreG.at (h : StoreG W B N Nd g fr sz used c d ps) : ∃ m n cs st, StoreAt W B N Nd g m n cs st d ps ∧ n ≤ 200 * c ∧ FitP ps := by
  obtain ⟨m, n, cs, st, ts, h1, h2, _, _, _, _, _, hn, _⟩ := h
  exact ⟨m, n, cs, st, h1, hn, h2.good.fit⟩
/-- What its calls may turn. -/
def MineG (W : World) (N Nd g : Nat) (b : Nat) : Prop := b = N ∨ mineD Nd g b ∨ ∃ es clock, W.heap[b]? = some (.map es clock)
theorem StoreG.low (h : StoreG W B N Nd g fr sz used c d ps) {m : Nat} (t : Turned (mineS N Nd g m) W W') (hm : B ≤ m) (hB : B ≤ W.heap.size) : Below B W W' := by
  obtain ⟨m', n, cs, st, ts, h1, _, _, _, _, hN, _⟩ := h
  refine t.below hB fun b hb => ?_
  rcases hb with rfl | hb | rfl
  · exact hN
  · exact (h1.disk.blocks b hb).1
  · exact hm
end

set_option maxHeartbeats 1000000 in
theorem commit_good (W : World) (B BB N Nd g fr sz used c : Nat) (d : Dk) (ps : List PairP) (h : StoreG W B N Nd g fr sz used c d ps) (hB : B ≤ W.heap.size) (hc : c ≤ 380)
    (v : Value) (l : List Ch) (hv : ChsAt W BB v l) (hBB : BB ≤ W.heap.size) (hva : ∀ b, v.ownBlock = some b → b ≠ N ∧ ¬ mineD Nd g b) (hl : l.length ≤ 200) (hpl : (∀ c ∈ l, c.fits) → (printL l).length ≤ 300000) :
    Calls Tryz.prog 19 #[.pointer (some ⟨N, 0, none⟩), v] W fun e W' => ∃ d', e = .returned (.int .i64 (commitP sz (used, ps) l).2) ∧
      StoreG W' B N Nd g fr sz (commitP sz (used, ps) l).1.1 (c + 1) d' (commitP sz (used, ps) l).1.2 ∧ d'.ss.length = d.ss.length ∧ d'.ah = d.ah ∧ Turned (MineG W N Nd g) W W' ∧ Below B W W' := by
  have hS := h
  obtain ⟨m, n, cs, st, ts, h1, h2, h3, h4, h5, hN, hm, hn, hg, hwr⟩ := h
  have hsz := h2.sz
  have hfew := h1.disk.few
  have hfit := h2.fit
  have hmore : ∀ {W' : World}, Below W.heap.size W W' → StoreG W' B N Nd g fr sz used (c + 1) d ps := fun hb => ⟨m, n, cs, st, ts, h1.below hb, h2, h3, h4, h5, hN, hm, by omega, by omega, by push_cast; omega⟩
  have hto : ∀ {W' : World}, Turned (mineS N Nd g m) W W' → Turned (MineG W N Nd g) W W' := fun t => t.mono fun b hb => by
    rcases hb with hb | hb | rfl
    · exact .inl hb
    · exact .inr (.inl hb)
    · exact .inr (.inr h1.map.block)
  by_cases hall : ∀ c ∈ l, c.fits
  case neg =>
    have hcp : commitP sz (used, ps) l = ((used, ps), 3) := if_pos hall
    rw [hcp]
    obtain ⟨x, hx⟩ := Classical.not_forall.1 hall
    obtain ⟨hx, hxf⟩ := Classical.not_imp.1 hx
    refine (commit_long BB N v l W hv hBB (by omega) x hx hxf).mono ?_
    rintro e W' ⟨rfl, hb⟩
    exact ⟨d, rfl, hmore hb, rfl, rfl, Turned.of_below hb (Nat.le_refl _), hb.mono hB⟩
  case pos =>
    have hpl := hpl hall
    by_cases hne : l = []
    · subst hne
      have hcp : commitP sz (used, ps) [] = ((used, ps), 0) := by
        unfold commitP
        rw [if_neg (fun hh => hh hall), if_pos rfl]
      rw [hcp]
      refine (commit_none BB N v W hv hBB).mono ?_
      rintro e W' ⟨rfl, hb⟩
      exact ⟨d, rfl, hmore hb, rfl, rfl, Turned.of_below hb (Nat.le_refl _), hb.mono hB⟩
    · have hu := h2.good.used
      have hro := h2.good.room
      have hrb := room_behind l ps
      have hsl : sizeP (behindP ps l) ≤ 64 * (1000 + secN (printL l).length) := sec_len (h := 1000 + secN (printL l).length) (by omega)
      have hsl2 : 64 * secN (printL l).length ≤ 300200 := by unfold secN; omega
      have hcm := commit_any B BB N Nd g m n cs st d ps W h1 hB (by omega) h2.lost (by omega) (by omega) h2.half (by rw [h2.used]; omega) (by omega) (by have := count_used ts; rw [h2.num]; omega) h2.good.fit v l hv hBB hva (by omega) (by omega) hall hne (by omega) (by omega)
      refine hcm.mono ?_
      rintro e W' ⟨d', code, cs', m', n', rfl, hcd, hst, hn', ht, hm'⟩
      have hbl := hS.low ht hm hB
      have hm2 : B ≤ m' := hm'.elim (fun e => e ▸ hm) fun h => by omega
      have hua : st.pl.at_ = used := h5
      by_cases hf : used + secN (printL l).length ≤ sz
      · have hcp : commitP sz (used, ps) l = ((used + secN (printL l).length, behindP ps l), 0) := by
          unfold commitP
          rw [if_neg (fun hh => hh hall), if_neg hne, if_pos hf]
        rw [hcp]
        obtain ⟨d2, hd2, hgo, hw2, hl2, ha2⟩ := h2.stays hall (by rw [← h2.used, h4, h5]; exact hf)
        unfold commitD at hcd
        rw [if_pos (by rw [h4, h5]; exact hf), hd2] at hcd
        obtain ⟨rfl, rfl⟩ := Prod.mk.inj hcd
        unfold commitS at hst
        rw [if_pos (by rw [h4, h5]; exact hf)] at hst
        refine ⟨d2, rfl, ⟨m', n', cs', _, _, hst, hgo, h3, h4, ?_, hN, hm2, by omega, ?_, by push_cast; omega⟩, hl2, ha2, hto ht, hbl⟩
        · show st.pl.at_ + secN (printL l).length = used + secN (printL l).length
          rw [h5]
        · show st.pl.gen ≤ _
          omega
      · by_cases hr : secN (sizeP (behindP ps l)) ≤ sz
        · have hcp : commitP sz (used, ps) l = ((secN (sizeP (behindP ps l)), behindP ps l), 0) := by
            unfold commitP
            rw [if_neg (fun hh => hh hall), if_neg hne, if_neg hf, if_pos hr]
          rw [hcp]
          obtain ⟨d2, hd2, hgo, hw2, hl2, ha2⟩ := h2.goes (by omega) hall (by rw [h4]; exact hr)
          unfold commitD at hcd
          rw [if_neg (by rw [h4, h5]; exact hf), hd2] at hcd
          obtain ⟨rfl, rfl⟩ := Prod.mk.inj hcd
          unfold commitS at hst
          rw [if_neg (by rw [h4, h5]; exact hf)] at hst
          refine ⟨d2, rfl, ⟨m', n', cs', _, _, hst, hgo, h3, h4, ?_, hN, hm2, by omega, ?_, by push_cast; omega⟩, hl2, ha2, hto ht, hbl⟩
          · show 0 + secN (sizeP (behindP ps l)) = secN (sizeP (behindP ps l))
            omega
          · show st.pl.gen + 1 ≤ _
            omega
        · have hcp : commitP sz (used, ps) l = ((used, ps), 5) := by
            unfold commitP
            rw [if_neg (fun hh => hh hall), if_neg hne, if_neg hf, if_neg hr]
          rw [hcp]
          unfold commitD overD at hcd
          rw [if_neg (by rw [h4, h5]; exact hf), if_pos (.inr (by rw [h4]; omega))] at hcd
          obtain ⟨rfl, rfl⟩ := Prod.mk.inj hcd
          unfold commitS at hst
          rw [if_neg (by rw [h4, h5]; exact hf)] at hst
          refine ⟨d, rfl, ⟨m', n', cs', _, ts, hst, h2, h3, h4, h5, hN, hm2, by omega, by show st.pl.gen ≤ c + 1 + 1; omega, by push_cast; omega⟩, rfl, rfl, hto ht, hbl⟩

theorem make_good (B Nd g : Nat) (d : Dk) (w : World) (hd : DiskAt w B Nd g d) (hB : B ≤ w.heap.size) (hwr : d.wr ≤ 0) (hup : d.down = false) (hca : d.ca ≤ 0) (hah : d.ah ≤ d.wr) (fr ct : Nat) (h4 : 4 ≤ ct) (h2 : ct % 2 = 0) (hct : ct ≤ 2000) (hfit : fr + ct ≤ d.ss.length) :
    Calls Tryz.prog 15 #[.pointer (some ⟨Nd, 0, none⟩), .int .i64 (fr : Int), .int .i64 (ct : Int)] w fun e w' => ∃ N d', e = .returned (.tuple #[.pointer (some ⟨N, 0, none⟩), .int .i64 0]) ∧
      StoreG w' B N Nd g fr (ct / 2) 1 0 d' [] ∧ d'.ss.length = d.ss.length ∧ d'.ah = d.ah ∧ w.heap.size ≤ N ∧ Turned (mineD Nd g) w w' := by
  refine (make_any B Nd g d w hd hB (by omega) fr ct h4 h2 hfit).mono ?_
  rintro e w' ⟨d', code, hmk, hres, ht⟩
  obtain ⟨d2, hmk2, hgo, hw2, hl2, ha2⟩ := made_good hup hca hah (fr := fr) (h := ct / 2) (by omega) (by omega) (by omega)
  rw [hmk2] at hmk
  obtain ⟨rfl, rfl⟩ := Prod.mk.inj hmk
  rcases hres with ⟨_, N, m, cs, rfl, hst, hN, hm⟩ | ⟨hne, _⟩
  · exact ⟨N, d2, rfl, ⟨m, 0, cs, _, _, hst, hgo, rfl, rfl, rfl, by omega, by omega, by omega, by show 1 ≤ 0 + 1; omega, by push_cast; omega⟩, hl2, ha2, hN, ht⟩
  · exact absurd rfl hne

theorem open_good (w : World) (B N Nd g fr sz used c : Nat) (d : Dk) (ps : List PairP) (h : StoreG w B N Nd g fr sz used c d ps) (hB : B ≤ w.heap.size) (h500 : sz ≤ 500) :
    Calls Tryz.prog 16 #[.pointer (some ⟨Nd, 0, none⟩), .int .i64 (fr : Int), .int .i64 ((2 * sz : Nat) : Int)] w fun e w' => ∃ N2, e = .returned (.tuple #[.pointer (some ⟨N2, 0, none⟩), .int .i64 0]) ∧
      (∃ m n cs st, StoreAt w' B N2 Nd g m n cs st d ps ∧ n ≤ 10000000) ∧ w.heap.size ≤ N2 ∧ Below w.heap.size w w' := by
  obtain ⟨m, n, cs, st, ts, h1, h2, rfl, rfl, h5, hN, hm, hn, hg, hwr⟩ := h
  have hz := h2.sz
  obtain ⟨hp, ho⟩ := h2.opens
  have hop := open_any B Nd g d w h1.disk hB st.fr (2 * st.sz) (by omega) (by omega) (by omega) h2.fit
  rw [show 2 * st.sz / 2 = st.sz by omega, hp] at hop
  refine hop.mono ?_
  rintro e w' ⟨hb, hres⟩
  rcases hres with ⟨hdn, _⟩ | ⟨_, hno, _⟩ | ⟨_, _, ps2, N2, m2, n2, cs2, hps, rfl, hn2, hst, hN2, hm2⟩
  · rw [h2.up] at hdn
    cases hdn
  · rcases hno with h0 | h0
    · exact absurd h0 h2.good.some
    · have h0' : openT [] ts = none := h0
      rw [ho] at h0'
      cases h0'
  · have h0 : openT [] ts = some ps2 := hps
    rw [ho] at h0
    cases h0
    exact ⟨N2, rfl, ⟨m2, n2, cs2, _, hst, hn2⟩, hN2, hb⟩
end Go.Proofs.YtcjmpkfcjcoobaaGreat
namespace Go.Proofs.YtcjmpkfcjcoobaaGreat
open Go.RowKit Go.Maps

set_option maxRecDepth 100000 in
set_option maxHeartbeats 4000000 in
theorem blank_bad (Nd : Nat) (fr ct : Int) (h : fr < 0 ∨ ct < 4 ∨ ct.tmod 2 ≠ 0) (w : World) :
    Calls Tryz.prog 35 #[.pointer (some ⟨Nd, 0, none⟩), .int .i64 fr, .int .i64 ct] w fun e w' => e = .returned (.tuple #[.pointer none, .int .i64 1]) ∧ w' = w := by
  by_cases g1 : fr < 0
  · clear h
    go_enter Tryz.func35, Tryz.ntmps35
    go_wp2
    go_ret2
    exact ⟨rfl, rfl⟩
  · by_cases g2 : ct < 4
    · clear h
      go_enter Tryz.func35, Tryz.ntmps35
      go_wp2
      go_ret2
      exact ⟨rfl, rfl⟩
    · have g3 : ¬ ct.tmod 2 = 0 := (h.resolve_left g1).resolve_left g2
      have g4 : ct % 2 = 1 := by
        rw [Int.tmod_eq_emod_of_nonneg (by omega)] at g3
        omega
      clear h g3
      go_enter Tryz.func35, Tryz.ntmps35
      go_wp2
      --@b
      go_ret2
      exact ⟨rfl, rfl⟩
set_option maxRecDepth 100000 in
set_option maxHeartbeats 4000000 in
theorem make_bad (Nd : Nat) (fr ct : Int) (h : fr < 0 ∨ ct < 4 ∨ ct.tmod 2 ≠ 0) (w : World) :
    Calls Tryz.prog 15 #[.pointer (some ⟨Nd, 0, none⟩), .int .i64 fr, .int .i64 ct] w fun e w' => e = .returned (.tuple #[.pointer none, .int .i64 1]) ∧ w' = w := by
  have hb := blank_bad Nd fr ct h
  clear h
  go_enter Tryz.func15, Tryz.ntmps15
  go_wp2_with fail
  refine (hb _).mono ?_
  rintro e w1 ⟨rfl, rfl⟩
  go_wp2
  go_ret2
  exact ⟨rfl, rfl⟩
set_option maxRecDepth 100000 in
set_option maxHeartbeats 4000000 in
theorem open_bad (Nd : Nat) (fr ct : Int) (h : fr < 0 ∨ ct < 4 ∨ ct.tmod 2 ≠ 0) (w : World) :
    Calls Tryz.prog 16 #[.pointer (some ⟨Nd, 0, none⟩), .int .i64 fr, .int .i64 ct] w fun e w' => e = .returned (.tuple #[.pointer none, .int .i64 1]) ∧ w' = w := by
  have hb := blank_bad Nd fr ct h
  clear h
  go_enter Tryz.func16, Tryz.ntmps16
  go_wp2_with fail
  refine (hb _).mono ?_
  rintro e w1 ⟨rfl, rfl⟩
  go_wp2
  go_ret2
  exact ⟨rfl, rfl⟩
end Go.Proofs.YtcjmpkfcjcoobaaGreat
