/-
  Texts of this proof, put together: StX.
-/
import Derived.Test.YtcjmpkfcjcoobaaGreatX47
import Derived.Test.YtcjmpkfcjcoobaaGreatX49
import Derived.Test.YtcjmpkfcjcoobaaGreatX28
namespace Go.Proofs.YtcjmpkfcjcoobaaGreat
open Go.RowKit Go.Maps

theorem code_commit (sz used : Nat) (ps : List PairP) (l : List Ch) : (commitP sz (used, ps) l).2 = 0 ∨ (commitP sz (used, ps) l).2 = 3 ∨ (commitP sz (used, ps) l).2 = 5 := by
  unfold commitP
  repeat' split
  · exact .inr (.inl rfl)
  · exact .inl rfl
  · exact .inl rfl
  · exact .inl rfl
  · exact .inr (.inr rfl)
theorem len_commit (sz used : Nat) (ps : List PairP) (l : List Ch) : (commitP sz (used, ps) l).1.2.length ≤ ps.length + l.length := by
  have := behind_len l ps
  unfold commitP
  repeat' split
  · exact Nat.le_add_right ..
  · exact Nat.le_add_right ..
  · exact this
  · exact this
  · exact Nat.le_add_right ..
/-- The first of sorted pairs goes. -/
theorem gone_first {p : PairP} {ps : List PairP} (hs : SortedP (p :: ps)) (v : List UInt8) : behindP (p :: ps) [⟨p.1, v, true⟩] = ps := by
  show doneP ⟨p.1, v, true⟩ false (p :: ps) = ps
  rw [done_off]
  have h2 := (sorted_cons.1 hs).1
  rw [List.filter_cons]
  simp only [beq_self_eq_true, Bool.not_true, Bool.false_eq_true, if_false]
  refine List.filter_eq_self.2 fun q hq => ?_
  have := h2 q hq
  simp only [Bool.not_eq_true', beq_eq_false_iff_ne]
  intro e
  rw [e, less_irrefl] at this
  cases this
theorem find_first (p : PairP) (ps : List PairP) : findP (p :: ps) p.1 = some p.2 := by
  rw [find_cons, if_pos rfl]
theorem find_in {ps : List PairP} (hs : SortedP ps) {p : PairP} (hp : p ∈ ps) : findP ps p.1 = some p.2 := by
  induction ps with
  | nil => cases hp
  | cons q ps ih =>
    rw [find_cons]
    rcases List.mem_cons.1 hp with rfl | hp
    · rw [if_pos rfl]
    · have h1 := (sorted_cons.1 hs).1 p hp
      rw [if_neg (fun e => by rw [e, less_irrefl] at h1; cases h1)]
      exact ih (sorted_cons.1 hs).2 hp
theorem keysP_nil (ps : List PairP) : keysP ps [] = ps.map (·.1) := by
  unfold keysP
  refine List.filter_eq_self.2 fun k _ => ?_
  simp

section
variable {W W' : World} {B N Nd g fr sz used c : Nat} {d : Dk} {ps : List PairP}
theorem StoreG.sorted (h : StoreG W B N Nd g fr sz used c d ps) : SortedP ps := by
  obtain ⟨m, n, cs, st, ts, h1, h2, _⟩ := h
  exact h2.good.sorted
theorem StoreG.fit (h : StoreG W B N Nd g fr sz used c d ps) : FitP ps := by
  obtain ⟨m, n, cs, st, ts, h1, h2, _⟩ := h
  exact h2.good.fit
theorem StoreG.ltN (h : StoreG W B N Nd g fr sz used c d ps) : N < W.heap.size ∧ B ≤ N ∧ ∀ b, mineD Nd g b → B ≤ b ∧ b < W.heap.size := by
  obtain ⟨m, n, cs, st, ts, h1, _, _, _, _, hN, _⟩ := h
  exact ⟨h1.held.lt, hN, h1.disk.blocks⟩
theorem StoreG.disk (h : StoreG W B N Nd g fr sz used c d ps) : DiskAt W B Nd g d := by
  obtain ⟨m, n, cs, st, ts, h1, _⟩ := h
  exact h1.disk
theorem StoreG.up (h : StoreG W B N Nd g fr sz used c d ps) : d.wr ≤ 1003 * ((c : Int) + 1) := by
  obtain ⟨m, n, cs, st, ts, _, _, _, _, _, _, _, _, _, h⟩ := h
  exact h
/-- What is in a store can be laid again. -/
theorem StoreG.same (h : StoreG W B N Nd g fr sz used c d ps) {k : KeyP} {v : List UInt8} (hk : findP ps k = some v) (hf : k.length ≤ 65535 ∧ v.length ≤ 65535) : ∃ u, commitP sz (used, ps) [⟨k, v, false⟩] = ((u, ps), 0) := by
  obtain ⟨m, n, cs, st, ts, h1, h2, h3, h4, h5, _⟩ := h
  have hr := h2.good.room_same hk
  have hb := behind_same h2.good.sorted hk
  rw [h4] at hr
  unfold commitP
  rw [if_neg (fun hh => hh (fun c hc => by rw [List.mem_singleton.1 hc]; exact hf)), if_neg (by simp)]
  split
  · exact ⟨_, by rw [hb]⟩
  · first
      | exact ⟨_, by rw [hb]⟩
      | (rw [if_pos hr, hb]; exact ⟨_, rfl⟩)
/-- Any key can go. -/
theorem StoreG.gone (h : StoreG W B N Nd g fr sz used c d ps) {k : KeyP} (hf : k.length ≤ 65535) : ∃ u, commitP sz (used, ps) [⟨k, [], true⟩] = ((u, behindP ps [⟨k, [], true⟩]), 0) := by
  obtain ⟨m, n, cs, st, ts, h1, h2, h3, h4, h5, _⟩ := h
  have hr := h2.good.room_gone k []
  rw [h4] at hr
  unfold commitP
  rw [if_neg (fun hh => hh (fun c hc => by rw [List.mem_singleton.1 hc]; exact ⟨hf, by simp⟩)), if_neg (by simp)]
  split
  · exact ⟨_, rfl⟩
  · first
      | exact ⟨_, rfl⟩
      | (rw [if_pos hr]; exact ⟨_, rfl⟩)
/-- Behind a write beside the area. -/
theorem StoreG.beside (h : StoreG W B N Nd g fr sz used c d ps) {p : Int} {x : List UInt8} (hD : DiskAt W' B Nd g (writeD d p x)) (h0 : 0 ≤ p) (hp : p < fr) (t : Turned (mineD Nd g) W W') : StoreG W' B N Nd g fr sz used (c + 1) (writeD d p x) ps := by
  obtain ⟨m, n, cs, st, ts, h1, h2, h3, h4, h5, h6, h7, h8, h9, h10⟩ := h
  have hw : ∃ ss, writeD d p x = ⟨ss, d.ca, d.ct, d.down, (writeD d p x).wr, d.ah⟩ ∧ d.wr ≤ (writeD d p x).wr ∧ (writeD d p x).wr ≤ d.wr + 1 ∧ ss.length = d.ss.length ∧ ∀ k, fr ≤ k → halfD ss k sz = halfD d.ss k sz := by
    unfold writeD
    split
    · unfold wroteD
      have := h2.ca
      have := h2.ah
      rw [if_neg (by omega)]
      refine ⟨_, rfl, by show d.wr ≤ d.wr + 1; omega, Int.le_refl _, List.length_set .., fun k hk => ?_⟩
      unfold halfD
      rw [List.drop_set_of_lt (by omega)]
    · exact ⟨d.ss, rfl, Int.le_refl _, by omega, rfl, fun _ _ => rfl⟩
  obtain ⟨ss, hw, hw1, hw2, hl, hh⟩ := hw
  obtain ⟨d', hd'⟩ : ∃ d', writeD d p x = d' := ⟨_, rfl⟩
  rw [hd'] at hw hw1 hw2 hD ⊢
  refine ⟨m, n, cs, st, ts, h1.disked hD t, ?_, h3, h4, h5, h6, h7, by omega, by omega, by push_cast; omega⟩
  have e1 : d'.ss = ss := by rw [hw]
  have e2 : d'.ca = d.ca := by rw [hw]
  have e3 : d'.down = d.down := by rw [hw]
  have e4 : d'.ah = d.ah := by rw [hw]
  refine ⟨?_, by rw [e3]; exact h2.up, by rw [e2]; exact h2.ca, by rw [e4]; have := h2.ah; omega, h2.used, h2.num, h2.half, h2.lost, by rw [e1, hl]; exact h2.fit, h2.sz, h2.gen⟩
  rw [e1]
  subst h4
  rw [hh _ (by rw [h3]; omega), hh _ (by rw [h3]; omega)]
  exact h2.good
/-- A row of texts, made since the store was. -/
theorem OwnT9.strs {w : World} {B : Nat} {v : Value} {l : List (List UInt8)} (h : OwnT9 B w v l) : ∃ A c, v = .slice A l.length c ∧ Strs w w.heap.size A l.length c (l.map textQ) := by
  have h2 := h.2
  rcases h2 with ⟨rfl, e⟩ | ⟨b, cap, cur, rfl, hb, hg, h1, h3, _⟩
  · rw [e]
    exact ⟨none, 0, rfl, by rw [List.length_map]; exact e, .inl ⟨rfl, rfl, rfl⟩⟩
  · refine ⟨_, cap, rfl, by rw [List.length_map], .inr ⟨_, rfl, .inr ⟨b, 0, rfl, (Array.getElem?_eq_some_iff.1 hg).1, fun j hj => ?_⟩⟩⟩
    have c1 := World.ownsRow.cells (g := b) h rfl j (.string (textQ l[j])) (by simp [hj])
    rw [Addr.add_lit] at c1
    rw [c1]
    simp [List.getD, hj]
theorem OwnT9.keepG {w w' : World} {B0 : Nat} {v : Value} {l : List (List UInt8)} (h : OwnT9 B0 w v l) (hN : N < B0) (hd : ∀ b, mineD Nd g b → b < B0) (t : Turned (MineG w N Nd g) w w') : OwnT9 B0 w' v l := by
  refine t.row h fun b hb hm => ?_
  obtain ⟨h1, cur, h2⟩ := row_block h hb
  rcases hm with rfl | hm | ⟨es, clock, hm⟩
  · omega
  · have := hd b hm
    omega
  · rw [h2] at hm
    cases hm
end
/-- Made, in an area of a disk that was written to. -/
theorem make_good2 (B Nd g : Nat) (d : Dk) (w : World) (hd : DiskAt w B Nd g d) (hB : B ≤ w.heap.size) (hwr : d.wr ≤ 1000) (hup : d.down = false) (hca : d.ca ≤ 0) (hah : d.ah ≤ d.wr) (fr ct : Nat) (h4 : 4 ≤ ct) (h2 : ct % 2 = 0) (hct : ct ≤ 2000) (hfit : fr + ct ≤ d.ss.length) :
    Calls Tryz.prog 15 #[.pointer (some ⟨Nd, 0, none⟩), .int .i64 (fr : Int), .int .i64 (ct : Int)] w fun e w' => ∃ N d', e = .returned (.tuple #[.pointer (some ⟨N, 0, none⟩), .int .i64 0]) ∧
      StoreG w' B N Nd g fr (ct / 2) 1 1 d' [] ∧ d'.ss.length = d.ss.length ∧ d'.ah = d.ah ∧ w.heap.size ≤ N ∧ Turned (mineD Nd g) w w' := by
  refine (make_any B Nd g d w hd hB (by omega) fr ct h4 h2 hfit).mono ?_
  rintro e w' ⟨d', code, hmk, hres, ht⟩
  obtain ⟨d2, hmk2, hgo, hw2, hl2, ha2⟩ := made_good hup hca hah (fr := fr) (h := ct / 2) (by omega) (by omega) (by omega)
  rw [hmk2] at hmk
  obtain ⟨rfl, rfl⟩ := Prod.mk.inj hmk
  rcases hres with ⟨_, N, m, cs, rfl, hst, hN, hm⟩ | ⟨hne, _⟩
  · exact ⟨N, d2, rfl, ⟨m, 0, cs, _, _, hst, hgo, rfl, rfl, rfl, by omega, by omega, by omega, by show 1 ≤ 1 + 1; omega, by push_cast; omega⟩, hl2, ha2, hN, ht⟩
  · exact absurd rfl hne
end Go.Proofs.YtcjmpkfcjcoobaaGreat
