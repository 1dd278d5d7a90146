/-
  Texts of this proof, put together: StV, StW.
-/
import Derived.Test.YtcjmpkfcjcoobaaGreatX46
import Derived.Test.YtcjmpkfcjcoobaaGreatX20
namespace Go.Proofs.YtcjmpkfcjcoobaaGreat
open Go.RowKit Go.Maps

theorem chs_one (W : World) (k v : List UInt8) (gn : Bool) : ChsAt (W.alloc (.cells #[.string (textQ k), .string (textQ v), .bool gn] 25)) (W.heap.size + 1) (.slice (some ⟨W.heap.size, 0, none⟩) 1 1) [⟨k, v, gn⟩] := by
  have hh : Held9 (W.alloc (.cells #[.string (textQ k), .string (textQ v), .bool gn] 25)) W.heap.size #[.string (textQ k), .string (textQ v), .bool gn] 25 := by
    unfold Held9
    exact heap_alloc_new _ _
  refine ⟨some ⟨W.heap.size, 0, none⟩, 1, rfl, Nat.le_refl _, by unfold maxLen; omega, fun i hi => ?_⟩
  have h0 : i = 0 := by simp at hi; omega
  subst h0
  exact ⟨W.heap.size, 0, rfl, by omega, hh.cell 0, hh.cell 1, hh.cell 2⟩
def chA : List Ch := [⟨[97], [120], false⟩]
def chB : List Ch := [⟨[97], [121], false⟩]
def psA : List PairP := [([97], [120])]
theorem chA_fit : ∀ c ∈ chA, c.fits := fun c hc => by
  rw [List.mem_singleton.1 hc]
  exact ⟨by decide, by decide⟩
theorem chB_fit : ∀ c ∈ chB, c.fits := fun c hc => by
  rw [List.mem_singleton.1 hc]
  exact ⟨by decide, by decide⟩
/-- A good store, of which the sector behind its records is empty. -/
structure AwkS (W : World) (B N Nd g m n : Nat) (cs : Array Value) (st : StP) (d : Dk) (ts : List (List UInt8)) : Prop where
  store : StoreAt W B N Nd g m n cs st d psA
  good : GoodS d st ts psA
  fr : st.fr = 0
  sz : st.sz = 4
  at_ : st.pl.at_ = 2
  next : (halfD d.ss (st.fr + st.pl.half * st.sz) st.sz)[st.pl.at_]? = some emptyR
  n : n ≤ 10
  bN : B ≤ N
  bm : B ≤ m
  wr : d.wr ≤ 5000
  len : d.ss.length = 8
theorem first8 (W : World) (B BB N Nd g : Nat) (d : Dk) (h : StoreG W B N Nd g 0 4 1 0 d []) (hB : B ≤ W.heap.size) (h8 : d.ss.length = 8) (v : Value) (hv : ChsAt W BB v chA) (hBB : BB ≤ W.heap.size) (hva : ∀ b, v.ownBlock = some b → b ≠ N ∧ ¬ mineD Nd g b) :
    Calls Tryz.prog 19 #[.pointer (some ⟨N, 0, none⟩), v] W fun e W' => ∃ m n cs st d' ts, e = .returned (.int .i64 0) ∧ AwkS W' B N Nd g m n cs st d' ts ∧ Below B W W' := by
  have hS := h
  obtain ⟨m, n, cs, st, ts, h1, h2, h3, h4, h5, hN, hm, hn, hg, hwr⟩ := h
  have hu : usedR ts = 1 := by rw [← h2.used]; exact h5
  have hpl : (printL chA).length = 7 := rfl
  have hsc : secN (printL chA).length = 1 := rfl
  have hcm := commit_any B BB N Nd g m n cs st d [] W h1 hB (by omega) h2.lost (by omega) (by omega) h2.half (by omega) (by omega) (by have := count_used ts; rw [h2.num]; omega) h2.good.fit v chA hv hBB hva (by decide) (by omega) chA_fit (by decide) (by decide) (by decide)
  refine hcm.mono ?_
  rintro e W' ⟨d', code, cs', m', n', rfl, hcd, hst, hn', ht, hm'⟩
  have hbl := hS.low ht hm hB
  have hm2 : B ≤ m' := hm'.elim (fun e => e ▸ hm) fun h => by omega
  have hf : st.pl.at_ + secN (printL chA).length ≤ st.sz := by rw [hsc, h4, h5]; decide
  obtain ⟨d2, hd2, hgo, hw2, hl2, ha2, hx2⟩ := stays_behind h2 chA_fit (by rw [hu, hsc, h4]; decide)
  unfold commitD at hcd
  rw [if_pos hf, hd2] at hcd
  obtain ⟨rfl, rfl⟩ := Prod.mk.inj hcd
  unfold commitS at hst
  rw [if_pos hf] at hst
  refine ⟨m', n', cs', _, d2, _, rfl, ⟨hst, hgo, h3, h4, ?_, hx2, ?_, hN, hm2, by omega, by rw [hl2]; exact h8⟩, hbl⟩
  · show st.pl.at_ + secN (printL chA).length = 2
    rw [hsc, h5]
  · have : chA.length = 1 := rfl
    omega
theorem second8 (W : World) (B BB N Nd g m n : Nat) (cs : Array Value) (st : StP) (d : Dk) (ts : List (List UInt8)) (W0 : World) (h : AwkS W0 B N Nd g m n cs st d ts) (hD : StoreAt W B N Nd g m n cs st (armD d 2 0) psA) (hB : B ≤ W.heap.size) (v : Value) (hv : ChsAt W BB v chB) (hBB : BB ≤ W.heap.size) (hva : ∀ b, v.ownBlock = some b → b ≠ N ∧ ¬ mineD Nd g b) :
    Calls Tryz.prog 19 #[.pointer (some ⟨N, 0, none⟩), v] W fun e W' => ∃ m' n' cs' st' d', e = .returned (.int .i64 6) ∧ StoreAt W' B N Nd g m' n' cs' st' d' [] ∧ GoodS (startD d') st ts psA ∧ d'.ss.length = 8 ∧ Below B W W' := by
  have hu : usedR ts = 2 := by rw [← h.good.used]; exact h.at_
  have hsc : secN (printL chB).length = 1 := rfl
  have hcm := commit_any B BB N Nd g m n cs st (armD d 2 0) psA W hD hB (by have := h.wr; show d.wr ≤ _; omega) h.good.lost (by rw [h.fr]; omega) (by rw [h.sz]; omega) h.good.half (by rw [h.at_]; omega) (by have := h.good.gen; omega) (by have := count_used ts; rw [h.good.num]; omega) h.good.good.fit v chB hv hBB hva (by decide) (by have := h.n; omega) chB_fit (by decide) (by decide) (by decide)
  obtain ⟨d4, hd4, hg4, hl4⟩ := torn_good h.good (by rw [h.at_, h.sz]; decide) h.next chB hsc
  refine hcm.mono ?_
  rintro e W' ⟨d', code, cs', m', n', rfl, hcd, hst, hn', ht, hm'⟩
  rw [hd4] at hcd
  obtain ⟨rfl, rfl⟩ := Prod.mk.inj hcd
  have hl8 : d4.ss.length = 8 := hl4.trans h.len
  refine ⟨m', n', cs', _, d4, rfl, hst, hg4, hl8, ht.below hB fun b hb => ?_⟩
  rcases hb with rfl | hb | rfl
  · exact h.bN
  · exact (hD.disk.blocks b hb).1
  · exact h.bm
end Go.Proofs.YtcjmpkfcjcoobaaGreat
namespace Go.Proofs.YtcjmpkfcjcoobaaGreat
open Go.RowKit Go.Maps

theorem StoreAt.disked {w w' : World} {B N Nd g m n : Nat} {cs : Array Value} {st : StP} {d d' : Dk} {ps : List PairP} (h : StoreAt w B N Nd g m n cs st d ps) (hD : DiskAt w' B Nd g d') (t : Turned (mineD Nd g) w w') : StoreAt w' B N Nd g m n cs st d' ps :=
  ⟨h.held.of_turned t (fun e => h.apart _ e rfl), h.ok, hD, h.map.keep t h.mD, h.apart⟩

theorem DiskAt.low {w w0 w' : World} {N g : Nat} {d : Dk} (h : DiskAt w w0.heap.size N g d) (hb : Below w0.heap.size w0 w) (t : Turned (mineD N g) w w') : Below w0.heap.size w0 w' :=
  hb.trans (t.below hb.size (fun b hb => (h.blocks b hb).1))

set_option maxRecDepth 100000 in
set_option maxHeartbeats 8000000 in
theorem awake8_any (w : World) : Calls Tryz.prog 7 #[] w fun e w' => e = .returned (.bool true) ∧ Below w.heap.size w w' := by
  have hmade := made_any 8 (by omega) (by omega) (by omega) w
  obtain ⟨X, hX, hXs, hXa, hXb⟩ : ∃ X : ByteArray, textQ (sumH [97, 98, 99]) = X ∧ ∃ hT : X.size = 32, ((X[0]'(by omega)).toNat : Int) = 186 ∧ ((X[31]'(by omega)).toNat : Int) = 173 := by
    have hl := sumH_len [97, 98, 99]
    obtain ⟨h0, h1⟩ := sum_abc
    obtain ⟨L, hL⟩ : ∃ L, sumH [97, 98, 99] = L := ⟨_, rfl⟩
    rw [hL] at hl h0 h1 ⊢
    refine ⟨textQ L, rfl, hl, ?_, ?_⟩
    · have : L[0]'(by omega) = 186 := by
        rw [List.getElem?_eq_getElem (by omega)] at h0
        exact Option.some.inj h0
      show (((L.toArray)[0]'(by simp; omega)).toNat : Int) = 186
      rw [List.getElem_toArray, this]
      rfl
    · have : L[31]'(by omega) = 173 := by
        rw [List.getElem?_eq_getElem (by omega)] at h1
        exact Option.some.inj h1
      show (((L.toArray)[31]'(by simp; omega)).toNat : Int) = 173
      rw [List.getElem_toArray, this]
      rfl
  have HX := Lib.hid hX
  clear hX
  go_enter Tryz.func7, Tryz.ntmps7
  go_wp2_with fail
  refine hmade.mono ?_
  rintro e w1 ⟨N, Nd, g, d, rfl, hS, hl, hb1⟩
  have HS1 := Lib.hid (And.intro hS (And.intro hl hb1))
  clear hS hl hb1 hmade
  go_wp2_with fail
  have c1 : Calls Tryz.prog 19 #[.pointer (some ⟨N, 0, none⟩), .slice (some ⟨w1.heap.size, 0, none⟩) 1 1] (w1.alloc (.cells #[.string ⟨#[97]⟩, .string ⟨#[120]⟩, .bool false] 25)) fun e w' => ∃ m n cs st d' ts, e = .returned (.int .i64 0) ∧ AwkS w' w.heap.size N Nd g m n cs st d' ts ∧ Below w.heap.size w w' := by
    obtain ⟨hS, hl, hb1⟩ := HS1.out
    have hba := (Below.refl _ w1).alloc (Nat.le_refl _) (.cells #[.string ⟨#[97]⟩, .string ⟨#[120]⟩, .bool false] 25)
    have hS2 := hS.below hba
    have hlt : N < w1.heap.size ∧ (∀ b, mineD Nd g b → b < w1.heap.size) := by
      obtain ⟨m, n, cs, st, ts, h1, _⟩ := hS
      exact ⟨h1.held.lt, fun b hb => (h1.disk.blocks b hb).2⟩
    refine (first8 _ w.heap.size (w1.heap.size + 1) N Nd g d hS2 (by have := hb1.size; simp; omega) hl _ (chs_one w1 [97] [120] false) (by simp) (fun b hb => ?_)).mono ?_
    · cases hb
      exact ⟨fun (e : w1.heap.size = N) => by have := hlt.1; omega, fun e => absurd (hlt.2 _ e) (Nat.lt_irrefl _)⟩
    · rintro e w' ⟨m, n, cs, st, d', ts, rfl, hA, hb⟩
      exact ⟨m, n, cs, st, d', ts, rfl, hA, (hb1.alloc hb1.size _).trans hb⟩
  refine c1.mono ?_
  rintro e w2 ⟨m, n, cs, st, d1, ts, rfl, hA, hb2⟩
  have HA := Lib.hid (And.intro hA hb2)
  have HbN := Lib.hid hA.bN
  have ca := arm_any w.heap.size Nd g d1 w2 2 0 hA.store.disk
  clear hA hb2 c1 HS1
  go_wp2_with fail
  refine ca.mono ?_
  rintro e w3 ⟨rfl, hD3, t3⟩
  have hst3 := HA.out.1.store.disked hD3 t3
  have hb3 := HA.out.1.store.disk.low HA.out.2 t3
  have HS3 := Lib.hid (And.intro hst3 hb3)
  clear ca hD3 t3 hst3 hb3
  go_wp2_with fail
  have c2 : Calls Tryz.prog 19 #[.pointer (some ⟨N, 0, none⟩), .slice (some ⟨w3.heap.size, 0, none⟩) 1 1] (w3.alloc (.cells #[.string ⟨#[97]⟩, .string ⟨#[121]⟩, .bool false] 25)) fun e w' => ∃ m' n' cs' st' d', e = .returned (.int .i64 6) ∧ StoreAt w' w.heap.size N Nd g m' n' cs' st' d' [] ∧ GoodS (startD d') st ts psA ∧ d'.ss.length = 8 ∧ Below w.heap.size w w' := by
    obtain ⟨hS, hb1⟩ := HS3.out
    have hba := (Below.refl _ w3).alloc (Nat.le_refl _) (.cells #[.string ⟨#[97]⟩, .string ⟨#[121]⟩, .bool false] 25)
    refine (second8 _ w.heap.size (w3.heap.size + 1) N Nd g m n cs st d1 ts w2 HA.out.1 (hS.below hba) (by have := hb1.size; simp; omega) _ (chs_one w3 [97] [121] false) (by simp) (fun b hb => ?_)).mono ?_
    · cases hb
      exact ⟨fun (e : w3.heap.size = N) => by have := hS.held.lt; omega, fun e => absurd (hS.disk.blocks _ e).2 (Nat.lt_irrefl _)⟩
    · rintro e w' ⟨m', n', cs', st', d', rfl, hA, hG, h8, hb⟩
      exact ⟨m', n', cs', st', d', rfl, hA, hG, h8, (hb1.alloc hb1.size _).trans hb⟩
  refine c2.mono ?_
  rintro e w4 ⟨m4, n4, cs4, st4, d4, rfl, hS4, hG4, hl4, hb4⟩
  have cg := get_any w.heap.size N Nd g m4 n4 cs4 st4 d4 [] w4 hS4 [97] (by decide)
  have HS4 := Lib.hid (And.intro hS4 (And.intro hG4 (And.intro hl4 hb4)))
  have hfs : st.fr = 0 ∧ st.sz = 4 := ⟨HA.out.1.fr, HA.out.1.sz⟩
  have Hfs := Lib.hid hfs
  clear hS4 hG4 hl4 hb4 c2 HS3 HA hfs
  go_wp2_with fail
  refine cg.mono ?_
  rintro e w5 ⟨rfl, hb5⟩
  rw [show findP [] [97] = none from rfl]
  have hb5' : Below w.heap.size w w5 := HS4.out.2.2.2.trans (hb5.mono HS4.out.2.2.2.size)
  have hS5 := HS4.out.1.below hb5
  have cst := sstart_any w.heap.size Nd g d4 w5 hS5.disk
  have HS5 := Lib.hid (And.intro hS5 hb5')
  clear cg hb5 hb5' hS5
  go_wp2_with fail
  refine cst.mono ?_
  rintro e w6 ⟨rfl, hD6, t6⟩
  have hS6 := HS5.out.1.disked hD6 t6
  have hb6 := HS5.out.1.disk.low HS5.out.2 t6
  have cop := open_any w.heap.size Nd g (startD d4) w6 hD6 hb6.size 0 8 (by omega) (by omega) (by omega) (by have := HS4.out.2.2.1; show 0 + 8 ≤ d4.ss.length; omega)
  have hop := HS4.out.2.1.opens
  rw [Hfs.out.1, Hfs.out.2] at hop
  rw [show 8 / 2 = 4 from rfl, hop.1] at cop
  have cop2 : Calls Tryz.prog 16 #[.pointer (some ⟨Nd, 0, none⟩), .int .i64 0, .int .i64 8] w6 fun e w' => ∃ N2 m n cs st, e = .returned (.tuple #[.pointer (some ⟨N2, 0, none⟩), .int .i64 0]) ∧ StoreAt w' w.heap.size N2 Nd g m n cs st (startD d4) psA ∧ n ≤ 10000000 ∧ Below w6.heap.size w6 w' ∧ w6.heap.size ≤ N2 ∧ w6.heap.size ≤ m := by
    refine cop.mono ?_
    rintro e w' ⟨hb, hres⟩
    rcases hres with ⟨hdn, _⟩ | ⟨_, hno, _⟩ | ⟨_, _, ps2, N2, m2, n2, cs2, hps, rfl, hn2, hst, hN2, hm2⟩
    · exact absurd hdn (by show ¬ false = true; decide)
    · rcases hno with h0 | h0
      · exact absurd h0 HS4.out.2.1.good.some
      · have h0' : openT [] ts = none := h0
        rw [hop.2] at h0'
        cases h0'
    · have h0 : openT [] ts = some ps2 := hps
      rw [hop.2] at h0
      cases h0
      exact ⟨N2, m2, n2, cs2, _, rfl, hst, hn2, hb, hN2, hm2⟩
  have HS6 := Lib.hid (And.intro hS6 hb6)
  clear hop cop cst hD6 t6 hS6 hb6 HS5 HS4 Hfs
  go_wp2_with fail
  refine cop2.mono ?_
  rintro e w7 ⟨N2, m7, n7, cs7, st7, rfl, hS7, hn7, hb7, hN2, hm7⟩
  have hlt6 := HS6.out.1.held.lt
  have Hne : Hid (¬ N2 = N ∧ ¬ m7 = N) := Lib.hid ⟨fun e => by omega, fun e => by omega⟩
  clear hN2 hm7 hlt6
  have hs7 := HS6.out.1.below hb7
  have hb7' : Below w.heap.size w w7 := HS6.out.2.trans (hb7.mono HS6.out.2.size)
  have cg2 := get_any w.heap.size N2 Nd g m7 n7 cs7 st7 _ psA w7 hS7 [97] (by decide)
  have HS7 := Lib.hid (And.intro hs7 (And.intro hS7 (And.intro hn7 hb7')))
  clear cop2 hS7 hn7 hb7 hs7 hb7' HS6
  go_wp2_with fail
  refine cg2.mono ?_
  rintro e w8 ⟨rfl, hb8⟩
  rw [show findP psA [97] = some [120] from by decide]
  have hs8 := HS7.out.1.below hb8
  have hS8 := HS7.out.2.1.below hb8
  have hb8' : Below w.heap.size w w8 := HS7.out.2.2.2.trans (hb8.mono HS7.out.2.2.2.size)
  have HS8 := Lib.hid (And.intro hs8 (And.intro hS8 (And.intro HS7.out.2.2.1 hb8')))
  clear cg2 hb8 hs8 hS8 hb8' HS7
  go_wp2_with fail
  have cp : Calls Tryz.prog 8 #[.slice (some ⟨w8.heap.size, 0, none⟩) 1 1] (w8.alloc (.cells #[.string ⟨#[107]⟩, .string ⟨#[118, 118]⟩, .bool false] 25)) fun e w' => e = .returned (.tuple #[.string ⟨#[0, 0, 1, 0, 2, 107, 118, 118]⟩, .int .i64 0]) ∧ Below w8.heap.size w8 w' := by
    have := print_any (w8.heap.size + 1) _ [⟨[107], [118, 118], false⟩] _ (chs_one w8 [107] [118, 118] false) (by simp) (by decide) (by decide)
    refine this.mono ?_
    rintro e w' ⟨rfl, hb⟩
    exact ⟨rfl, ((Below.refl _ w8).alloc (Nat.le_refl _) _).trans (hb.mono (by simp))⟩
  refine cp.mono ?_
  rintro e w9 ⟨rfl, hb9⟩
  have hs9 := HS8.out.1.below hb9
  have hS9 := HS8.out.2.1.below hb9
  have hb9' : Below w.heap.size w w9 := HS8.out.2.2.2.trans (hb9.mono HS8.out.2.2.2.size)
  have HS9 := Lib.hid (And.intro hs9 (And.intro hS9 (And.intro HS8.out.2.2.1 hb9')))
  clear cp hb9 hs9 hS9 hb9' HS8
  have cpa : Calls Tryz.prog 11 #[.string ⟨#[0, 0, 1, 0, 2, 107, 118, 118]⟩] w9 fun e w' => ∃ v, e = .returned (.tuple #[v, .int .i64 0]) ∧ Below w9.heap.size w9 w' ∧ ∃ ao cap, v = .slice ao 1 cap := by
    have := parse_any [0, 0, 1, 0, 2, 107, 118, 118] (by decide) w9
    refine this.mono ?_
    rintro e w' ⟨v, code, rfl, hb, hres⟩
    have hp : parseL ([0, 0, 1, 0, 2, 107, 118, 118] : List UInt8).length [0, 0, 1, 0, 2, 107, 118, 118] = some [⟨[107], [118, 118], false⟩] := parse_print [⟨[107], [118, 118], false⟩] (fun c hc => by rw [List.mem_singleton.1 hc]; exact ⟨by decide, by decide⟩) _ (Nat.le_refl _)
    rcases hres with ⟨h0, _⟩ | ⟨l, h0, rfl, hown⟩
    · rw [hp] at h0
      cases h0
    · rw [hp] at h0
      cases h0
      exact ⟨v, rfl, hb, slice_of hown⟩
  go_wp2_with fail
  refine cpa.mono ?_
  rintro e w10 ⟨_, rfl, hb10, ao, cap, rfl⟩
  have hs10 := HS9.out.1.below hb10
  have hS10 := HS9.out.2.1.below hb10
  have hb10' : Below w.heap.size w w10 := HS9.out.2.2.2.trans (hb10.mono HS9.out.2.2.2.size)
  have HS10 := Lib.hid (And.intro hs10 (And.intro hS10 (And.intro HS9.out.2.2.1 hb10')))
  clear cpa hb10 hs10 hS10 hb10' HS9
  go_wp2_with fail
  refine (open_bad Nd 0 3 (.inr (.inl (by omega))) w10).mono ?_
  rintro e w11 ⟨rfl, h11⟩
  obtain rfl := h11.symm
  clear h11
  have cs1 := sum_any N cs4 ⟨#[97, 98, 99]⟩ (by decide) w10 HS10.out.1.held HS10.out.1.ok.once
  rw [show (⟨#[97, 98, 99]⟩ : ByteArray).data.toList = [97, 98, 99] from rfl, HX.out] at cs1
  go_wp2_with fail
  refine cs1.mono ?_
  rintro e w12 ⟨rfl, cs12, _, _, _, t12⟩
  have hS12 : StoreAt w12 w.heap.size N2 Nd g m7 n7 cs7 st7 (startD d4) psA := by
    have h := HS10.out.2.1
    exact ⟨h.held.of_turned t12 Hne.out.1, h.ok, h.disk.keep t12 (fun b hb => HS10.out.1.apart b hb), h.map.keep t12 Hne.out.2, h.apart⟩
  have hb12 : Below w.heap.size w w12 := HS10.out.2.2.2.trans (t12.below HS10.out.2.2.2.size (fun b hb => by rw [hb]; exact HbN.out))
  have ck := keys_any w.heap.size N2 Nd g m7 n7 cs7 st7 _ psA w12 hS12 (by have := HS10.out.2.2.1; omega) []
  have ck2 : Calls Tryz.prog 23 #[.pointer (some ⟨N2, 0, none⟩), .string ⟨#[]⟩] w12 fun e w' => ∃ ao cap, e = .returned (.slice ao 1 cap) ∧ Below w.heap.size w w' := by
    refine ck.mono ?_
    rintro e w' ⟨v, rfl, hown, hb⟩
    obtain ⟨ao, cap, rfl⟩ := slice_of hown
    exact ⟨ao, cap, rfl, hb12.trans (hb.mono hb12.size)⟩
  clear t12 hS12 hb12 ck cs1 HS10
  have h120 : (textQ [120]).toList = [120] := by rw [Lib.toList_data]; rfl
  go_wp2_with (go_at_call 23; refine ck2.mono ?_; rintro e w13 ⟨ao2, cap2, rfl, hb13⟩)
  go_ret
  exact ⟨rfl, hb13⟩
end Go.Proofs.YtcjmpkfcjcoobaaGreat
