/-
  Texts of this proof, put together: StQ, StR.
-/
import Derived.Test.YtgpdplffljidbaaGreatDoorZ29
namespace Go.Proofs.YtgpdplffljidbaaGreatDoor
open Go.RowKit Go.Maps

section
variable {H : List UInt8 → List UInt8} (hH : ∀ l, (H l).length = 32)
include hH in
theorem hear_row {gen : Nat} (hg : gen < 4294967296) {more ss : List (List UInt8)} (hm : readR H more = none) : ∀ (ts : List (List UInt8)) (f : Nat) (p : PlP) (acc : List (List UInt8)), p.gen = gen → (∀ t ∈ ts, t.length < 4294967296) → p.num + ts.length ≤ 4294967296 → ts.length ≤ f →
    ss.drop p.at_ = rowR H gen p.num ts ++ more → hearL H f ss p acc = (acc ++ ts, ⟨p.half, p.at_ + usedR ts, gen, p.num + ts.length⟩)
  | [], f, ⟨hf, a, g, n⟩, acc, hpg, _, _, _, hd => by
    subst hpg
    have e : hearL H f ss ⟨hf, a, g, n⟩ acc = (acc, ⟨hf, a, g, n⟩) := by
      cases f with
      | zero => rfl
      | succ f =>
        unfold hearL
        rw [hd]
        show (match readR H ([] ++ more) with | some (g', n', t) => _ | none => (acc, _)) = _
        rw [List.nil_append, hm]
    rw [e, List.append_nil]
    rfl
  | t :: ts, 0, p, acc, _, _, _, hf, _ => by simp at hf
  | t :: ts, f + 1, ⟨hf, a, g, n⟩, acc, hpg, ht, hn, hl, hd => by
    subst hpg
    simp only [List.length_cons] at hn hl
    have hd' : ss.drop a = laidR H g n t ++ (rowR H g (n + 1) ts ++ more) := by
      rw [← List.append_assoc]
      exact hd
    have hr : readR H (ss.drop a) = some (g, n, t) := by
      rw [hd']
      exact read_laid H hH hg (by omega) (ht t (List.mem_cons_self ..)) _
    have hd2 : ss.drop (a + secN t.length) = rowR H g (n + 1) ts ++ more := by
      rw [← List.drop_drop, hd', List.drop_left' (laid_len H g n t)]
    have ih := hear_row hg hm ts f (plNext ⟨hf, a, g, n⟩ t.length) (acc ++ [t]) rfl (fun x hx => ht x (List.mem_cons_of_mem _ hx)) (by show n + 1 + _ ≤ _; omega) (by omega) hd2
    unfold hearL
    show (match readR H (ss.drop a) with | some (g', n', t) => _ | none => (acc, _)) = _
    rw [hr]
    show (if n = n ∧ (acc = [] ∨ g = g) then hearL H f ss (plNext ⟨hf, a, g, n⟩ t.length) (acc ++ [t]) else _) = _
    rw [if_pos ⟨rfl, .inr rfl⟩, ih]
    show ((acc ++ [t]) ++ ts, (⟨hf, a + secN t.length + usedR ts, g, n + 1 + ts.length⟩ : PlP)) = (acc ++ t :: ts, ⟨hf, a + (secN t.length + usedR ts), g, n + (ts.length + 1)⟩)
    rw [List.append_assoc, Nat.add_assoc, Nat.add_assoc n 1, Nat.add_comm 1]
    rfl
include hH in
theorem hear_half {ss : List (List UInt8)} {gen f hf : Nat} {ts : List (List UInt8)} (hg : gen < 4294967296) (ht : ∀ t ∈ ts, t.length < 4294967296) (h : HalfR H ss gen ts) (hne : ts ≠ []) (hn : ts.length ≤ 4294967296) (hfl : ts.length ≤ f) :
    hearL H f ss ⟨hf, 0, 0, 0⟩ [] = (ts, ⟨hf, usedR ts, gen, ts.length⟩) := by
  obtain ⟨more, rfl, hm⟩ := h
  match ts, f, hne with
  | t :: ts, 0, _ => simp at hfl
  | t :: ts, f + 1, _ =>
    simp only [List.length_cons] at hn hfl
    have hd' : rowR H gen 0 (t :: ts) ++ more = laidR H gen 0 t ++ (rowR H gen 1 ts ++ more) := by
      rw [← List.append_assoc]
      rfl
    have hr : readR H (rowR H gen 0 (t :: ts) ++ more) = some (gen, 0, t) := by
      rw [hd']
      exact read_laid H hH hg (by omega) (ht t (List.mem_cons_self ..)) _
    have hd2 : (rowR H gen 0 (t :: ts) ++ more).drop (0 + secN t.length) = rowR H gen 1 ts ++ more := by
      rw [Nat.zero_add, hd', List.drop_left' (laid_len H gen 0 t)]
    have ih := hear_row hH hg hm ts f (plNext ⟨hf, 0, gen, 0⟩ t.length) ([] ++ [t]) rfl (fun x hx => ht x (List.mem_cons_of_mem _ hx)) (by show 0 + 1 + _ ≤ _; omega) (by omega) hd2
    obtain ⟨ss, hss⟩ : ∃ ss, rowR H gen 0 (t :: ts) ++ more = ss := ⟨_, rfl⟩
    rw [hss] at hr hd2 ih ⊢
    unfold hearL
    show (match readR H ss with | some (g', n', t) => _ | none => ([], _)) = _
    rw [hr]
    show (if 0 = 0 ∧ (([] : List (List UInt8)) = [] ∨ gen = 0) then hearL H f ss (plNext ⟨hf, 0, gen, 0⟩ t.length) ([] ++ [t]) else _) = _
    rw [if_pos ⟨rfl, .inl rfl⟩, ih]
    show (([] ++ [t]) ++ ts, (⟨hf, 0 + secN t.length + usedR ts, gen, 0 + 1 + ts.length⟩ : PlP)) = (t :: ts, ⟨hf, secN t.length + usedR ts, gen, ts.length + 1⟩)
    rw [Nat.zero_add, Nat.zero_add, Nat.add_comm 1]
    rfl
theorem hear_gen {ss : List (List UInt8)} : ∀ (f : Nat) (p : PlP) (acc : List (List UInt8)), acc ≠ [] → (hearL H f ss p acc).2.gen = p.gen ∧ (hearL H f ss p acc).1 ≠ []
  | 0, p, acc, h => ⟨rfl, h⟩
  | f + 1, p, acc, h => by
    unfold hearL
    split
    · rename_i g n t _
      split
      · rename_i hc
        have ih := hear_gen (ss := ss) f (plNext ⟨p.half, p.at_, g, n⟩ t.length) (acc ++ [t]) (by simp)
        exact ⟨ih.1.trans (hc.2.resolve_left h), ih.2⟩
      · exact ⟨rfl, h⟩
    · exact ⟨rfl, h⟩
theorem hear_old {ss : List (List UInt8)} {gen f hf : Nat} (h : OldR H ss gen) : (hearL H (f + 1) ss ⟨hf, 0, 0, 0⟩ []).1 = [] ∨ ((hearL H (f + 1) ss ⟨hf, 0, 0, 0⟩ []).1 ≠ [] ∧ (hearL H (f + 1) ss ⟨hf, 0, 0, 0⟩ []).2.gen < gen) := by
  unfold hearL
  show (match readR H ss with | some (g', n', t) => _ | none => ([], _)).1 = [] ∨ _
  rcases h with h | ⟨g, t, h, hl⟩
  · rw [List.drop_zero, h]
    exact .inl rfl
  · rw [List.drop_zero, h]
    right
    have ih := hear_gen (H := H) (ss := ss) f (plNext ⟨hf, 0, g, 0⟩ t.length) ([] ++ [t]) (by simp)
    show (if 0 = 0 ∧ (([] : List (List UInt8)) = [] ∨ g = 0) then hearL H f ss (plNext ⟨hf, 0, g, 0⟩ t.length) ([] ++ [t]) else ([], ⟨hf, 0, 0, 0⟩)).1 ≠ [] ∧ (if 0 = 0 ∧ (([] : List (List UInt8)) = [] ∨ g = 0) then hearL H f ss (plNext ⟨hf, 0, g, 0⟩ t.length) ([] ++ [t]) else ([], ⟨hf, 0, 0, 0⟩)).2.gen < gen
    rw [if_pos ⟨rfl, .inl rfl⟩]
    exact ⟨ih.2, by rw [ih.1]; exact hl⟩
end
theorem open_told : ∀ (ts : List (List UInt8)) (a : List PairP), openT a ts = ts.foldl (fun a t => a.bind fun ps => (parseL t.length t).map (behindP ps)) (some a)
  | [], a => rfl
  | t :: ts, a => by
    unfold openT
    rw [List.foldl_cons]
    show _ = ts.foldl _ ((parseL t.length t).map (behindP a))
    cases parseL t.length t with
    | none =>
      show none = ts.foldl _ none
      clear a
      induction ts with
      | nil => rfl
      | cons x ts ih => exact ih
    | some l => exact open_told ts (behindP a l)

section
variable {d : Dk} {st : StP} {ts : List (List UInt8)} {ps : List PairP}
theorem GoodS.opens (h : GoodS d st ts ps) : pickL sumH d.ss st.fr st.sz 2 = (ts, st.pl) ∧ openT [] ts = some ps := by
  refine ⟨?_, (open_told ts []).trans h.good.told⟩
  have hz := h.sz
  have hgen := h.gen
  have hu := h.good.used
  have hc := count_used ts
  have hne := h.good.some
  have hpl : (⟨st.pl.half, usedR ts, st.pl.gen, ts.length⟩ : PlP) = st.pl := by
    have h1 := h.used
    have h2 := h.num
    obtain ⟨fr, sz, ⟨a, b, c, e⟩, l⟩ := st
    simp only at h1 h2
    rw [h1, h2]
  have hme := hear_half sumH_len (f := st.sz + 1) (hf := st.pl.half) (by omega) (h.good.texts (by omega)) h.good.half hne (by omega) (by omega)
  rw [hpl] at hme
  have hold := hear_old (f := st.sz) (hf := 1 - st.pl.half) h.good.old
  have hh := h.half
  rcases (show st.pl.half = 0 ∨ st.pl.half = 1 by omega) with e | e
  · rw [e] at hme hold
    simp only [pickL]
    rw [hme]
    simp only [Nat.sub_zero] at hold
    rw [if_pos (show ts ≠ [] ∧ _ from ⟨hne, .inl trivial⟩)]
    exact if_neg fun hx => hold.elim (fun h0 => hx.1 h0) fun h1 => hx.2.elim (fun h0 => hne h0) fun h0 => by
      have h0' : st.pl.gen < _ := h0
      have := h1.2
      omega
  · rw [e] at hme hold
    simp only [pickL]
    rw [hme]
    simp only [Nat.sub_self] at hold
    refine if_pos ⟨hne, ?_⟩
    rcases hold with h0 | ⟨h0, h1⟩
    · left
      rw [if_neg fun hx => hx.1 h0]
    · right
      rw [if_pos ⟨h0, .inl trivial⟩]
      exact h1
end
theorem made_good {d : Dk} (hup : d.down = false) (hca : d.ca ≤ 0) (hah : d.ah ≤ d.wr) {fr h : Nat} (h2 : 2 ≤ h) (hh : h ≤ 2100) (hfit : fr + 2 * h ≤ d.ss.length) :
    ∃ d', makeD d fr h = (d', 0) ∧ GoodS d' (layS ⟨fr, h, ⟨1, 0, 0, 0⟩, false⟩ (overP ⟨1, 0, 0, 0⟩) (sizeP []) 0) [[]] [] ∧ d'.wr ≤ d.wr + 2103 ∧ d'.ss.length = d.ss.length ∧ d'.ah = d.ah := by
  obtain ⟨st, hst⟩ : ∃ st : StP, (⟨fr, h, ⟨1, 0, 0, 0⟩, false⟩ : StP) = st := ⟨_, rfl⟩
  have hfr : st.fr = fr := by rw [← hst]
  have hsz : st.sz = h := by rw [← hst]
  have hov : overP ⟨1, 0, 0, 0⟩ = overP st.pl := by rw [← hst]
  have hhf : st.pl.half = 1 := by rw [← hst]
  have ho : st.fr + (overP st.pl).half * st.sz + st.sz ≤ d.ss.length := by rw [hfr, hsz, ← hov]; show fr + 0 * h + h ≤ _; omega
  have hf : (overP st.pl).at_ + secN (printL (wholeP [])).length ≤ st.sz := by rw [hsz]; show 0 + 1 ≤ h; omega
  have hok : ∀ x ∈ (fr + 1 * h + 0, ([] : List UInt8)) :: overL st (printL (wholeP [])), x.1 < d.ss.length ∧ x.2.length ≤ 64 := fun x hx => by
    rcases List.mem_cons.1 hx with rfl | hx
    · exact ⟨by show fr + 1 * h + 0 < _; omega, by simp⟩
    · rcases List.mem_cons.1 hx with rfl | hx
      · exact ⟨by show st.fr + (1 - st.pl.half) * st.sz + 0 < _; rw [hfr, hsz, hhf]; show fr + 0 * h + 0 < _; omega, by simp⟩
      · exact layL_ok st (overP st.pl) _ _ ho hf x hx
  have hrun : makeD d fr h = runD d ((fr + 1 * h + 0, []) :: overL st (printL (wholeP []))) := by
    unfold makeD overD
    rw [hst]
    rw [if_neg (show ¬ (st.pl.gen = 4294967295 ∨ st.sz < secN (sizeP [])) from by rw [hsz, ← hst]; show ¬ (0 = 4294967295 ∨ h < 1); omega)]
    rfl
  have hsets : setsD d.ss ((fr + 1 * h + 0, []) :: overL st (printL (wholeP []))) = setsD ((d.ss.set (fr + 1 * h + 0) emptyR).set (st.fr + (overP st.pl).half * st.sz + 0) emptyR) (layL st (overP st.pl) (printL (wholeP []))) := rfl
  have hlen1 : ((d.ss.set (fr + 1 * h + 0) emptyR).set (st.fr + (overP st.pl).half * st.sz + 0) emptyR).length = d.ss.length := by rw [List.length_set, List.length_set]
  refine ⟨_, hrun.trans (run_good hup hca hah _ hok), ⟨?_, rfl, hca, by show d.ah ≤ d.wr + _; omega, rfl, rfl, by show 0 ≤ 1; omega, rfl, by show fr + 2 * h ≤ (setsD _ _).length; rw [sets_len]; exact hfit, ⟨h2, hh⟩, by show 1 ≤ 1000000; omega⟩, ?_, ?_, rfl⟩
  · show GoodR sumH h 1 [[]] [] (halfD (setsD d.ss ((fr + 1 * h + 0, []) :: overL st (printL (wholeP [])))) (fr + 0 * h) h) (halfD (setsD d.ss ((fr + 1 * h + 0, []) :: overL st (printL (wholeP [])))) (fr + 1 * h) h)
    rw [hsets]
    have e1 := lay_in_half st (overP st.pl) (printL (wholeP [])) _ (hlen1.symm ▸ ho) hf
    have e2 := lay_apart st (overP st.pl) (printL (wholeP [])) _ (hlen1.symm ▸ ho) hf (fr + 1 * h) (by
      rw [hfr, hsz, ← hov]
      show _ ∨ fr + 0 * h + h ≤ fr + 1 * h
      omega)
    rw [hfr, hsz, ← hov] at e1 e2 ⊢
    have e1' := e1
    rw [show (overP (⟨1, 0, 0, 0⟩ : PlP)).half = 0 from rfl] at e1' e2 ⊢
    rw [e1', e2]
    have e3 := half_set (ss := d.ss.set (fr + 1 * h + 0) emptyR) (k := fr + 0 * h) (sz := h) (i := 0) (x := emptyR) (by rw [List.length_set]; omega) (by omega)
    have e4 := half_set_apart (ss := d.ss.set (fr + 1 * h + 0) emptyR) (k := fr + 0 * h) (k2 := fr + 1 * h) (sz := h) (i := 0) (x := emptyR) (by omega) (by omega)
    have e5 := half_set_apart (ss := d.ss) (k := fr + 1 * h) (k2 := fr + 0 * h) (sz := h) (i := 0) (x := emptyR) (by omega) (by omega)
    have e6 := half_set (ss := d.ss) (k := fr + 1 * h) (sz := h) (i := 0) (x := emptyR) (by omega) (by omega)
    rw [e3, e4, e5, e6]
    exact good_make (half_len (by omega)) (half_len (by omega)) h2
  · have h1 := layL_len st (overP st.pl) (printL (wholeP []))
    have h3 : secN (printL (wholeP [])).length = 1 := rfl
    show d.wr + ((((fr + 1 * h + 0, ([] : List UInt8)) :: overL st (printL (wholeP []))).length : Nat) : Int) ≤ _
    unfold overL
    rw [List.length_cons, List.length_cons]
    omega
  · show (setsD _ _).length = _
    rw [sets_len]
end Go.Proofs.YtgpdplffljidbaaGreatDoor
namespace Go.Proofs.YtgpdplffljidbaaGreatDoor
open Go.RowKit Go.Maps

def StoreG (W : World) (B N Nd g fr sz used c : Nat) (d : Dk) (ps : List PairP) : Prop :=
  ∃ m n cs st ts, StoreAt W B N Nd g m n cs st d ps ∧ GoodS d st ts ps ∧ st.fr = fr ∧ st.sz = sz ∧ st.pl.at_ = used ∧ B ≤ N ∧ B ≤ m ∧ n ≤ 200 * c ∧ st.pl.gen ≤ c + 1 ∧ d.wr ≤ 2103 * ((c : Int) + 1)
section
variable {W W' : World} {B N Nd g fr sz used c : Nat} {d : Dk} {ps : List PairP}
theorem StoreG.below (h : StoreG W B N Nd g fr sz used c d ps) (hb : Below W.heap.size W W') : StoreG W' B N Nd g fr sz used c d ps := by
  obtain ⟨m, n, cs, st, ts, h1, h2⟩ := h
  exact ⟨m, n, cs, st, ts, h1.below hb, h2⟩
theorem StoreG.at (h : StoreG W B N Nd g fr sz used c d ps) : ∃ m n cs st, StoreAt W B N Nd g m n cs st d ps ∧ n ≤ 200 * c ∧ FitP ps := by
  obtain ⟨m, n, cs, st, ts, h1, h2, _, _, _, _, _, hn, _⟩ := h
  exact ⟨m, n, cs, st, h1, hn, h2.good.fit⟩
def StoreM (W : World) (B N Nd g m fr sz used c : Nat) (d : Dk) (ps : List PairP) : Prop :=
  ∃ n cs st ts, StoreAt W B N Nd g m n cs st d ps ∧ GoodS d st ts ps ∧ st.fr = fr ∧ st.sz = sz ∧ st.pl.at_ = used ∧ B ≤ N ∧ B ≤ m ∧ n ≤ 200 * c ∧ st.pl.gen ≤ c + 1 ∧ d.wr ≤ 2103 * ((c : Int) + 1)
theorem StoreM.good {m : Nat} (h : StoreM W B N Nd g m fr sz used c d ps) : StoreG W B N Nd g fr sz used c d ps := by
  obtain ⟨n, cs, st, ts, h⟩ := h
  exact ⟨m, n, cs, st, ts, h⟩
theorem StoreG.some (h : StoreG W B N Nd g fr sz used c d ps) : ∃ m, StoreM W B N Nd g m fr sz used c d ps := by
  obtain ⟨m, n, cs, st, ts, h⟩ := h
  exact ⟨m, n, cs, st, ts, h⟩
theorem StoreM.keep {m : Nat} {S : Nat → Prop} (h : StoreM W B N Nd g m fr sz used c d ps) (t : Turned S W W') (hs : ∀ b, B ≤ b → ¬ S b) : StoreM W' B N Nd g m fr sz used c d ps := by
  obtain ⟨n, cs, st, ts, h1, h2, h3, h4, h5, h6, h7, h8⟩ := h
  exact ⟨n, cs, st, ts, ⟨h1.held.of_turned t (hs _ h6), h1.ok, h1.disk.keep t (fun b hb => hs _ (h1.disk.blocks b hb).1), h1.map.keep t (hs _ h7), h1.apart⟩, h2, h3, h4, h5, h6, h7, h8⟩
theorem StoreM.lt {m : Nat} (h : StoreM W B N Nd g m fr sz used c d ps) : m < W.heap.size ∧ N < W.heap.size ∧ ∀ b, mineD Nd g b → b < W.heap.size := by
  obtain ⟨n, cs, st, ts, h1, _⟩ := h
  exact ⟨h1.map.lt, h1.held.lt, fun b hb => (h1.disk.blocks b hb).2⟩
def MineG (W : World) (N Nd g : Nat) (b : Nat) : Prop := b = N ∨ mineD Nd g b ∨ ∃ es clock, W.heap[b]? = some (.map es clock)
theorem StoreG.low (h : StoreG W B N Nd g fr sz used c d ps) {m : Nat} (t : Turned (mineS N Nd g m) W W') (hm : B ≤ m) (hB : B ≤ W.heap.size) : Below B W W' := by
  obtain ⟨m', n, cs, st, ts, h1, _, _, _, _, hN, _⟩ := h
  refine t.below hB fun b hb => ?_
  rcases hb with rfl | hb | rfl
  · exact hN
  · exact (h1.disk.blocks b hb).1
  · exact hm
end

set_option maxHeartbeats 1000000 in
theorem commit_goodM (W : World) (B BB N Nd g m fr sz used c : Nat) (d : Dk) (ps : List PairP) (h : StoreM W B N Nd g m fr sz used c d ps) (hB : B ≤ W.heap.size) (hc : c ≤ 380)
    (v : Value) (l : List Ch) (hv : ChsAt W BB v l) (hBB : BB ≤ W.heap.size) (hva : ∀ b, v.ownBlock = some b → b ≠ N ∧ ¬ mineD Nd g b) (hl : l.length ≤ 200) (hpl : (∀ c ∈ l, c.fits) → (printL l).length ≤ 300000) :
    Calls Tryz.prog 18 #[.pointer (some ⟨N, 0, none⟩), v] W fun e W' => ∃ d' m', e = .returned (.int .i64 (commitP sz (used, ps) l).2) ∧
      StoreM W' B N Nd g m' fr sz (commitP sz (used, ps) l).1.1 (c + 1) d' (commitP sz (used, ps) l).1.2 ∧ d'.ss.length = d.ss.length ∧ d'.ah = d.ah ∧ Turned (mineS N Nd g m) W W' ∧ Below B W W' ∧ (m' = m ∨ W.heap.size ≤ m') := by
  have hS := h.good
  obtain ⟨n, cs, st, ts, h1, h2, h3, h4, h5, hN, hm, hn, hg, hwr⟩ := h
  have hsz := h2.sz
  have hfew := h1.disk.few
  have hfit := h2.fit
  have hmore : ∀ {W' : World}, Below W.heap.size W W' → StoreM W' B N Nd g m fr sz used (c + 1) d ps := fun hb => ⟨n, cs, st, ts, h1.below hb, h2, h3, h4, h5, hN, hm, by omega, by omega, by push_cast; omega⟩
  by_cases hall : ∀ c ∈ l, c.fits
  case neg =>
    have hcp : commitP sz (used, ps) l = ((used, ps), 3) := if_pos hall
    rw [hcp]
    obtain ⟨x, hx⟩ := Classical.not_forall.1 hall
    obtain ⟨hx, hxf⟩ := Classical.not_imp.1 hx
    refine (commit_long BB N v l W hv hBB (by omega) x hx hxf).mono ?_
    rintro e W' ⟨rfl, hb⟩
    exact ⟨d, m, rfl, hmore hb, rfl, rfl, Turned.of_below hb (Nat.le_refl _), hb.mono hB, .inl rfl⟩
  case pos =>
    have hpl := hpl hall
    by_cases hne : l = []
    · subst hne
      have hcp : commitP sz (used, ps) [] = ((used, ps), 0) := by
        unfold commitP
        rw [if_neg (fun hh => hh hall), if_pos rfl]
      rw [hcp]
      refine (commit_none BB N v W hv hBB).mono ?_
      rintro e W' ⟨rfl, hb⟩
      exact ⟨d, m, rfl, hmore hb, rfl, rfl, Turned.of_below hb (Nat.le_refl _), hb.mono hB, .inl rfl⟩
    · have hu := h2.good.used
      have hro := h2.good.room
      have hrb := room_behind l ps
      have hsl : sizeP (behindP ps l) ≤ 64 * (2100 + secN (printL l).length) := sec_len (h := 2100 + secN (printL l).length) (by omega)
      have hsl2 : 64 * secN (printL l).length ≤ 300200 := by unfold secN; omega
      have hcm := commit_any B BB N Nd g m n cs st d ps W h1 hB (by omega) h2.lost (by omega) (by omega) h2.half (by rw [h2.used]; omega) (by omega) (by have := count_used ts; rw [h2.num]; omega) h2.good.fit v l hv hBB hva (by omega) (by omega) hall hne (by omega) (by omega)
      refine hcm.mono ?_
      rintro e W' ⟨d', code, cs', m', n', rfl, hcd, hst, hn', ht, hm'⟩
      have hbl := hS.low ht hm hB
      have hm2 : B ≤ m' := hm'.elim (fun e => e ▸ hm) fun h => by omega
      have hua : st.pl.at_ = used := h5
      by_cases hf : used + secN (printL l).length ≤ sz
      · have hcp : commitP sz (used, ps) l = ((used + secN (printL l).length, behindP ps l), 0) := by
          unfold commitP
          rw [if_neg (fun hh => hh hall), if_neg hne, if_pos hf]
        rw [hcp]
        obtain ⟨d2, hd2, hgo, hw2, hl2, ha2⟩ := h2.stays hall (by rw [← h2.used, h4, h5]; exact hf)
        unfold commitD at hcd
        rw [if_pos (by rw [h4, h5]; exact hf), hd2] at hcd
        obtain ⟨rfl, rfl⟩ := Prod.mk.inj hcd
        unfold commitS at hst
        rw [if_pos (by rw [h4, h5]; exact hf)] at hst
        refine ⟨d2, m', rfl, ⟨n', cs', _, _, hst, hgo, h3, h4, ?_, hN, hm2, by omega, ?_, by push_cast; omega⟩, hl2, ha2, ht, hbl, hm'⟩
        · show st.pl.at_ + secN (printL l).length = used + secN (printL l).length
          rw [h5]
        · show st.pl.gen ≤ _
          omega
      · by_cases hr : secN (sizeP (behindP ps l)) ≤ sz
        · have hcp : commitP sz (used, ps) l = ((secN (sizeP (behindP ps l)), behindP ps l), 0) := by
            unfold commitP
            rw [if_neg (fun hh => hh hall), if_neg hne, if_neg hf, if_pos hr]
          rw [hcp]
          obtain ⟨d2, hd2, hgo, hw2, hl2, ha2⟩ := h2.goes (by omega) hall (by rw [h4]; exact hr)
          unfold commitD at hcd
          rw [if_neg (by rw [h4, h5]; exact hf), hd2] at hcd
          obtain ⟨rfl, rfl⟩ := Prod.mk.inj hcd
          unfold commitS at hst
          rw [if_neg (by rw [h4, h5]; exact hf)] at hst
          refine ⟨d2, m', rfl, ⟨n', cs', _, _, hst, hgo, h3, h4, ?_, hN, hm2, by omega, ?_, by push_cast; omega⟩, hl2, ha2, ht, hbl, hm'⟩
          · show 0 + secN (sizeP (behindP ps l)) = secN (sizeP (behindP ps l))
            omega
          · show st.pl.gen + 1 ≤ _
            omega
        · have hcp : commitP sz (used, ps) l = ((used, ps), 5) := by
            unfold commitP
            rw [if_neg (fun hh => hh hall), if_neg hne, if_neg hf, if_neg hr]
          rw [hcp]
          unfold commitD overD at hcd
          rw [if_neg (by rw [h4, h5]; exact hf), if_pos (.inr (by rw [h4]; omega))] at hcd
          obtain ⟨rfl, rfl⟩ := Prod.mk.inj hcd
          unfold commitS at hst
          rw [if_neg (by rw [h4, h5]; exact hf)] at hst
          refine ⟨d, m', rfl, ⟨n', cs', _, ts, hst, h2, h3, h4, h5, hN, hm2, by omega, by show st.pl.gen ≤ c + 1 + 1; omega, by push_cast; omega⟩, rfl, rfl, ht, hbl, hm'⟩

theorem commit_good (W : World) (B BB N Nd g fr sz used c : Nat) (d : Dk) (ps : List PairP) (h : StoreG W B N Nd g fr sz used c d ps) (hB : B ≤ W.heap.size) (hc : c ≤ 380)
    (v : Value) (l : List Ch) (hv : ChsAt W BB v l) (hBB : BB ≤ W.heap.size) (hva : ∀ b, v.ownBlock = some b → b ≠ N ∧ ¬ mineD Nd g b) (hl : l.length ≤ 200) (hpl : (∀ c ∈ l, c.fits) → (printL l).length ≤ 300000) :
    Calls Tryz.prog 18 #[.pointer (some ⟨N, 0, none⟩), v] W fun e W' => ∃ d', e = .returned (.int .i64 (commitP sz (used, ps) l).2) ∧
      StoreG W' B N Nd g fr sz (commitP sz (used, ps) l).1.1 (c + 1) d' (commitP sz (used, ps) l).1.2 ∧ d'.ss.length = d.ss.length ∧ d'.ah = d.ah ∧ Turned (MineG W N Nd g) W W' ∧ Below B W W' := by
  obtain ⟨m, hM⟩ := h.some
  have hblk : ∃ es clock, W.heap[m]? = some (.map es clock) := by
    obtain ⟨n, cs, st, ts, h1, _⟩ := hM
    exact h1.map.block
  refine (commit_goodM W B BB N Nd g m fr sz used c d ps hM hB hc v l hv hBB hva hl hpl).mono ?_
  rintro e W' ⟨d', m', rfl, hs, hl, ha, ht, hb, _⟩
  exact ⟨d', rfl, hs.good, hl, ha, ht.mono fun b hb => by
    rcases hb with hb | hb | rfl
    · exact .inl hb
    · exact .inr (.inl hb)
    · exact .inr (.inr hblk), hb⟩

theorem make_good (B Nd g : Nat) (d : Dk) (w : World) (hd : DiskAt w B Nd g d) (hB : B ≤ w.heap.size) (hwr : d.wr ≤ 0) (hup : d.down = false) (hca : d.ca ≤ 0) (hah : d.ah ≤ d.wr) (fr ct : Nat) (h4 : 4 ≤ ct) (h2 : ct % 2 = 0) (hct : ct ≤ 4200) (hfit : fr + ct ≤ d.ss.length) :
    Calls Tryz.prog 28 #[.pointer (some ⟨Nd, 0, none⟩), .int .i64 (fr : Int), .int .i64 (ct : Int)] w fun e w' => ∃ N d', e = .returned (.tuple #[.pointer (some ⟨N, 0, none⟩), .int .i64 0]) ∧
      StoreG w' B N Nd g fr (ct / 2) 1 0 d' [] ∧ d'.ss.length = d.ss.length ∧ d'.ah = d.ah ∧ w.heap.size ≤ N ∧ Turned (mineD Nd g) w w' := by
  refine (make_any B Nd g d w hd hB (by omega) fr ct h4 h2 hfit).mono ?_
  rintro e w' ⟨d', code, hmk, hres, ht⟩
  obtain ⟨d2, hmk2, hgo, hw2, hl2, ha2⟩ := made_good hup hca hah (fr := fr) (h := ct / 2) (by omega) (by omega) (by omega)
  rw [hmk2] at hmk
  obtain ⟨rfl, rfl⟩ := Prod.mk.inj hmk
  rcases hres with ⟨_, N, m, cs, rfl, hst, hN, hm⟩ | ⟨hne, _⟩
  · exact ⟨N, d2, rfl, ⟨m, 0, cs, _, _, hst, hgo, rfl, rfl, rfl, by omega, by omega, by omega, by show 1 ≤ 0 + 1; omega, by push_cast; omega⟩, hl2, ha2, hN, ht⟩
  · exact absurd rfl hne

theorem open_good (w : World) (B N Nd g fr sz used c : Nat) (d : Dk) (ps : List PairP) (h : StoreG w B N Nd g fr sz used c d ps) (hB : B ≤ w.heap.size) (h500 : sz ≤ 2100) :
    Calls Tryz.prog 22 #[.pointer (some ⟨Nd, 0, none⟩), .int .i64 (fr : Int), .int .i64 ((2 * sz : Nat) : Int)] w fun e w' => ∃ N2, e = .returned (.tuple #[.pointer (some ⟨N2, 0, none⟩), .int .i64 0]) ∧
      (∃ m n cs st, StoreAt w' B N2 Nd g m n cs st d ps ∧ n ≤ 100000000) ∧ w.heap.size ≤ N2 ∧ Below w.heap.size w w' := by
  obtain ⟨m, n, cs, st, ts, h1, h2, rfl, rfl, h5, hN, hm, hn, hg, hwr⟩ := h
  have hz := h2.sz
  obtain ⟨hp, ho⟩ := h2.opens
  have hop := open_any B Nd g d w h1.disk hB st.fr (2 * st.sz) (by omega) (by omega) (by omega) h2.fit
  rw [show 2 * st.sz / 2 = st.sz by omega, hp] at hop
  refine hop.mono ?_
  rintro e w' ⟨hb, hres⟩
  rcases hres with ⟨hdn, _⟩ | ⟨_, hno, _⟩ | ⟨_, _, ps2, N2, m2, n2, cs2, hps, rfl, hn2, hst, hN2, hm2⟩
  · rw [h2.up] at hdn
    cases hdn
  · rcases hno with h0 | h0
    · exact absurd h0 h2.good.some
    · have h0' : openT [] ts = none := h0
      rw [ho] at h0'
      cases h0'
  · have h0 : openT [] ts = some ps2 := hps
    rw [ho] at h0
    cases h0
    exact ⟨N2, rfl, ⟨m2, n2, cs2, _, hst, hn2⟩, hN2, hb⟩
end Go.Proofs.YtgpdplffljidbaaGreatDoor
