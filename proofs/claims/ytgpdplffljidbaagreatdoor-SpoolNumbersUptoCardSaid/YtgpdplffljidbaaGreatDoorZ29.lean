/-
  Texts of this proof, put together: StO, StP.
-/
import Derived.Test.YtgpdplffljidbaaGreatDoorZ28
import Derived.Maps.RangeWalk
import Derived.Sort.KeysCollected
import Derived.Sort.OwnSorted
import Derived.Test.YtgpdplffljidbaaGreatDoorZ25
import Derived.Test.YtgpdplffljidbaaGreatDoorZ09
namespace Go.Proofs.YtgpdplffljidbaaGreatDoor
open Go.RowKit Go.Maps

theorem encStr_text (s : List UInt8) : encStr s = .string (textQ s) := rfl
theorem pre9 (pre : List UInt8) (k : List UInt8) : Lib.hasPrefix k pre = (k.take pre.length == pre) := by
  rw [pre_take, Bool.eq_iff_iff, decide_eq_true_iff, beq_iff_eq]
theorem ranges_turn9 {H : Type} {P : Program} {k : TypeId} {R : Value → Option (DataW H × List MemPlace)} {w w' : World} {b r n : Nat} {D : DataW H} {left : Lit → Bool} {cnt : Nat} {S : Nat → Prop} (h : w.ranges P k R b r n D left cnt) (t : Turned S w w') (h1 : ¬ S b) (h2 : ¬ S r) : w'.ranges P k R b r n D left cnt := by
  obtain ⟨es, clock, since, seen, c0, hb, F, hs, hD, hr, rest⟩ := h
  exact ⟨es, clock, since, seen, c0, t.heap hb h1, F, hs, hD, t.heap hr h2, rest⟩
theorem valR_inv9 {v : Value} {y : DataW Unit × List MemPlace} (h : valR v = some y) : ∃ c : ByteArray, v = .agg #[.string c] := by
  cases v with
  | agg cs =>
    obtain ⟨s, hs, _⟩ := valL_inv (show valL cs.toList = some y from h)
    refine ⟨s, ?_⟩
    rw [show cs = #[.string s] from Array.toList_inj.1 hs]
  | _ => cases h
theorem keys_sorted9 {w : World} {m n : Nat} {ps : List PairP} {D : DataW Unit} (hs : SortedP ps) (hown : w.ownsMap Tryz.prog 9 valR m n D) (ht : TellsD D ps) {ss : List (List UInt8)} (hperm : ss.Perm (strKeys D)) (pre : List UInt8) :
    (ss.filter fun k => Lib.hasPrefix k pre).mergeSort (fun x y => decide (x ≤ y)) = keysP ps pre := by
  obtain ⟨es, rfl, hkeys⟩ := hown.keysOf
  obtain ⟨hsorted, hnodup⟩ := sorted_keys hs
  obtain ⟨es2, he2, hap⟩ := hown.tidy keyedStr
  cases he2
  have hp2 : (ps.map (·.1)).Perm (strKeys (.map es)) := by
    refine perm_strKeys hap (fun p hp => ?_) hnodup fun x => ?_
    · obtain ⟨v0, hv0⟩ := hkeys p hp
      obtain ⟨x, _, hx, _⟩ := Maps.keyOf_str Tryz.underlying9 hv0
      exact ⟨x, hx⟩
    · rw [← find_mem]
      constructor
      · rintro ⟨v0, hv0⟩
        exact ((ht x).2 v0 hv0).1
      · intro hx
        cases hf : findP ps x with
        | none =>
          have := (ht x).1 hf
          rw [hx] at this
          cases this
        | some v0 => exact ⟨v0, rfl⟩
  have hp3 : (ss.filter fun k => Lib.hasPrefix k pre).Perm (keysP ps pre) := by
    have := (hperm.trans hp2.symm).filter (fun k => Lib.hasPrefix k pre)
    unfold keysP
    rw [show (fun k : KeyP => k.take pre.length == pre) = fun k => Lib.hasPrefix k pre from funext fun k => (pre9 pre k).symm]
    exact this
  have := mergeSort_of_perm hp3
  show (ss.filter fun k => Lib.hasPrefix k pre).mergeSort leB = _
  rw [this]
  exact List.mergeSort_of_pairwise (hsorted.filter _)

set_option maxRecDepth 100000 in
set_option maxHeartbeats 4000000 in
theorem keys_any (B N Nd g m n : Nat) (cs : Array Value) (st : StP) (d : Dk) (ps : List PairP) (w : World) (h : StoreAt w B N Nd g m n cs st d ps) (hn : n ≤ 100000000) (pre : List UInt8) :
    Calls Tryz.prog 42 #[.pointer (some ⟨N, 0, none⟩), .string (textQ pre)] w fun e w' => ∃ v, e = .returned v ∧ OwnT9 w.heap.size w' v (keysP ps pre) ∧ Below w.heap.size w w' := by
  have c7 := h.held.cell 7
  rw [h.ok.c7] at c7
  have hsort := h.map.sorted
  have hml := h.map.lt
  obtain ⟨D, hown, ht⟩ := h.map.data
  have hD := hown
  obtain ⟨PT, hPT⟩ : ∃ PT, textQ pre = PT := ⟨_, rfl⟩
  rw [hPT]
  have HS := Lib.hid (And.intro hsort (And.intro hown (And.intro ht hPT)))
  clear h hsort ht hD hPT
  go_enter Tryz.func42, Tryz.ntmps42
  go_wp2_with (first
    | (at_range; refine wpList_range_own _ rfl _ 93 rfl 9 _ keyedStr Tryz.underlying93 valR m n D rfl hown ?_; intro w0 hrg0 hg0 hs0)
    | go_in)
  go_frame
  have hb0 : Below w.heap.size w w0 := (Below.refl _ w).grown hg0 (Nat.le_refl _) (fun k hk => by cases hk)
  have HB0 := Lib.hid hb0
  clear hown hg0 hb0
  go_loopw [5] (fun v wr => ∃ (left : Lit → Bool) (cnt : Nat) (ss : List (List UInt8)), wr.ranges Tryz.prog 9 valR m w.heap.size n D left cnt ∧ Collected D left ss ∧ ss.length + cnt ≤ 100000000 ∧ OwnT9 (w.heap.size + 1) wr v (ss.filter fun k => Lib.hasPrefix k pre) ∧ Below w.heap.size w wr)
    (fun _ wr => wr.rangeLeft m w.heap.size)
  case atStart => exact ⟨_, _, [], hrg0, Collected.start D, by have := HS.out.2.1.size_le; simp; omega, World.ownsRow_nil _ _ _ _, HB0.out⟩
  case round =>
    clear hrg0
    obtain ⟨left, cnt, ss, hrg, hC, hcl, hown, hb⟩ := hrel
    have hHid := Lib.hid (And.intro hown hb)
    have hwz := hb.size
    clear hown hb
    go_wp2_with (first
      | (at_next; refine wpList_next_ranges _ rfl _ rfl 9 keyedStr valR encStr (fun s : ByteArray => Value.agg #[.string s]) (fun key kl h => by obtain ⟨x, hx, _⟩ := Maps.keyOf_str Tryz.underlying9 h; exact ⟨x, hx⟩) (fun v y hv => valR_inv9 hv) m w.heap.size n _ _ _ rfl hrg ?_ ?_)
      | go_in)
    · intro hc0 hl0
      have hperm := hC.perm hrg.owns keyedStr Tryz.underlying9 hl0
      obtain ⟨hsort, hownD, ht, hPT⟩ := HS.out
      have hks := keys_sorted9 hsort hownD ht hperm pre
      obtain ⟨hown, hb⟩ := hHid.out
      have hkl : (keysP ps pre).length = (ss.filter fun k => Lib.hasPrefix k pre).length := by rw [← hks, List.length_mergeSort]
      rcases hown.2 with ⟨hnil, hz⟩ | ⟨g0, cap, cur, hv, hbase, hbl, h1, h2, h3, h4⟩
      · subst hnil
        have hkn : keysP ps pre = [] := List.eq_nil_of_length_eq_zero (by rw [hkl]; exact hz)
        have hso := AnyM.slices_Sort_string_none Tryz.sort8 none 0 wr
        have HF := Lib.hid (And.intro hkn hb)
        clear hown hb hks hperm hC hsort hownD ht hPT hkl hz hkn
        go_wp2_with (go_at_call 68; refine hso.mono ?_; rintro e w9 ⟨rfl, h9⟩; obtain rfl := h9.symm; clear h9)
        go_ret
        exact ⟨_, rfl, by rw [HF.out.1]; exact World.ownsRow_nil _ _ _ _, HF.out.2⟩
      · subst hv
        obtain ⟨L, hL⟩ : ∃ L, (ss.filter fun k => Lib.hasPrefix k pre) = L := ⟨_, rfl⟩
        rw [hL] at hown hks hkl h1 h4 ⊢
        have hH : Sort.Holds encStr wr g0 0 L.toArray := holds_of_block hbl (by rw [Nat.mul_one] at h4; exact h4)
        have hso := AnyM.slices_Sort_string Tryz.sort8 g0 0 cap L wr hH (Array.getElem?_eq_some_iff.1 hbl).1 (by
          have : L.length ≤ ss.length := by rw [← hL]; exact List.length_filter_le _ _
          omega)
        have HF := Lib.hid (And.intro hks (And.intro hb (And.intro hbase (And.intro hbl (And.intro h1 (And.intro h2 h3))))))
        clear hown hb hks hperm hC hsort hownD ht hPT hkl hbase hbl h1 h2 h3 h4 hH hL
        go_wp2_with (go_at_call 68; refine hso.mono ?_; rintro e w9 ⟨rfl, n9, os, rfl⟩)
        obtain ⟨hks, hb, hbase, hbl, h1, h2, h3⟩ := HF.out
        have hrow := ownsRow_sorted (n := n9) (os := os) (show (L.mergeSort fun x y => decide (x ≤ y)).length = L.length from List.length_mergeSort ..) hbase hbl h1 h2 h3
        have hgr := grownBy_sorted (w := wr) (g := g0) (n := n9) (os := os) (L.mergeSort fun x y => decide (x ≤ y)).toArray
        have hb9 := hb.grown hgr hb.size (fun k hk => by cases hk; omega)
        have hlen : L.length = (keysP ps pre).length := by rw [← hks, List.length_mergeSort]
        rw [hks] at hrow hb9
        have HG := Lib.hid (And.intro hrow hb9)
        clear hrow hgr hb9 hb hbl hso
        go_wp2_with fail
        go_ret
        refine ⟨_, rfl, ?_, by rw [hks]; exact HG.out.2⟩
        have := row_more HG.out.1 (show w.heap.size ≤ w.heap.size + 1 by omega)
        rw [hlen] at this ⊢
        rw [hks]
        exact this
    · intro x c kl y1 y2 w1 cnt1 hkey hlk hv hat hrg1 hlt hg1 hs1 hen
      obtain ⟨x', ex, rfl, hxl⟩ := Maps.keyOf_str Tryz.underlying9 hkey
      cases encStr_inj ex
      obtain ⟨KT, hKT⟩ : ∃ KT, textQ x = KT := ⟨_, rfl⟩
      rw [encStr_text, hKT] at hen ⊢
      have hpre := has_pre9 KT PT w1
      rw [show Lib.hasPrefix KT.data.toList PT.data.toList = Lib.hasPrefix x pre by rw [← hKT, ← HS.out.2.2.2]; rfl] at hpre
      obtain ⟨hown, hb⟩ := hHid.out
      have t1 : Turned (fun b => b = w.heap.size) wr w1 := Turned.of_grown hg1 (fun k hk => .inl (by cases hk; rfl))
      have hown1 := t1.row hown (fun b hb' e => by have := (row_block hown hb').1; omega)
      have hb1 := hb.trans (t1.below hwz (fun b e => by omega))
      have hC1 := hC.step hlk hat
      obtain ⟨L, hL⟩ : ∃ L, (ss.filter fun k => Lib.hasPrefix k pre) = L := ⟨_, rfl⟩
      have hll : L.length ≤ ss.length := by rw [← hL]; exact List.length_filter_le _ _
      rw [hL] at hown1
      have HX := Lib.hid (And.intro hrg1 (And.intro hown1 (And.intro hb1 (And.intro hC1 hL))))
      have Hrg := Lib.hid (And.intro hrg hlt)
      have HKT := Lib.hid hKT
      have hwz1 : w.heap.size ≤ w1.heap.size := by omega
      clear hrg1 hb1 hC1 hown hb t1 hkey hlk hv hat hg1 hC hrg hHid hKT hlt hL hs1 hwz
      cases hp : Lib.hasPrefix x pre with
      | false =>
        rw [hp] at hpre
        have hf : ((ss ++ [x]).filter fun k => Lib.hasPrefix k pre) = L := by rw [List.filter_append, HX.out.2.2.2.2]; simp [hp]
        have HFf := Lib.hid hf
        clear hf hown1
        go_wp2_with (go_at_call 57; refine hpre.mono ?_; rintro e w9 ⟨rfl, h9⟩; obtain rfl := h9.symm; clear h9)
        go_roundw
        case rel => exact ⟨_, cnt1, ss ++ [x], HX.out.1, HX.out.2.2.2.1, by rw [List.length_append]; have := Hrg.out.2; simp; omega, by rw [HFf.out]; exact HX.out.2.1, HX.out.2.2.1⟩
        case measure => rw [HX.out.1.left_eq, Hrg.out.1.left_eq]; exact Hrg.out.2
      | true =>
        rw [hp] at hpre
        have hf : ((ss ++ [x]).filter fun k => Lib.hasPrefix k pre) = L ++ [x] := by rw [List.filter_append, HX.out.2.2.2.2]; simp [hp]
        have HFf := Lib.hid hf
        have hr2 := hown1.alloc (.cells #[.string KT] 9)
        have Hr2 := Lib.hid hr2
        clear hf hr2 hown1
        go_upto_region 6 with (go_at_call 57; refine hpre.mono ?_; rintro e w9 ⟨rfl, h9⟩; obtain rfl := h9.symm; clear h9)
        have hkt := HKT.out
        subst hkt
        go_wp2_with (at_builtin; refine wpList_append_t rfl _ _ rfl (w.heap.size + 1) _ L x rfl Hr2.out (by simp; omega) (by omega) w1.heap.size 1 rfl (by go_simp) ?_; intro v2 w2 hown2 ht2 hf2; have Hx := Lib.hid (And.intro hown2 ht2); clear hown2 ht2 hf2)
        have hrowb : ∀ b, blkOf u5 b → w.heap.size + 1 ≤ b := fun b e => (row_block HX.out.2.1 e).1
        have hrg2 := ranges_turn9 (HX.out.1.alloc (.cells #[.string (textQ x)] 9)) Hx.out.2 (fun e => by have := hrowb _ e; omega) (fun e => by have := hrowb _ e; omega)
        have hb2 := (HX.out.2.2.1.alloc hwz1 (.cells #[.string (textQ x)] 9)).trans (Hx.out.2.below (by simp; omega) (fun b e => by have := hrowb b e; omega))
        have HZ := Lib.hid (And.intro hrg2 hb2)
        clear hrg2 hb2
        go_wp2_with fail
        go_roundw
        case rel => exact ⟨_, cnt1, ss ++ [x], HZ.out.1, HX.out.2.2.2.1, by rw [List.length_append]; have := Hrg.out.2; simp; omega, by rw [HFf.out]; exact Hx.out.1, HZ.out.2⟩
        case measure => rw [HZ.out.1.left_eq, Hrg.out.1.left_eq]; exact Hrg.out.2
end Go.Proofs.YtgpdplffljidbaaGreatDoor
namespace Go.Proofs.YtgpdplffljidbaaGreatDoor
open Go.RowKit Go.Maps

theorem layL_ok (st : StP) (p : PlP) (t : List UInt8) (n : Nat) (h : st.fr + p.half * st.sz + st.sz ≤ n) (hf : p.at_ + secN t.length ≤ st.sz) : ∀ x ∈ layL st p t, x.1 < n ∧ x.2.length ≤ 64 := by
  intro x hx
  have hn : (layP p t).length = secN t.length := by
    unfold layP
    rw [List.length_map, List.length_range]
  unfold layL at hx
  rcases List.mem_append.1 hx with hx | hx
  · unfold layE at hx
    split at hx
    · rename_i hlt
      simp only [List.mem_cons, List.not_mem_nil, or_false] at hx
      subst hx
      exact ⟨by show st.fr + p.half * st.sz + (p.at_ + secN t.length) < n; omega, by simp⟩
    · cases hx
  · obtain ⟨y, hy, rfl⟩ := List.mem_map.1 hx
    obtain ⟨h1, h2⟩ := revJ_mem _ _ _ hy
    rw [hn] at h1
    exact ⟨by show st.fr + p.half * st.sz + (p.at_ + y.1) < n; omega, by show y.2.length ≤ 64; rw [h2]; exact layP_get p t _⟩
theorem layL_len (st : StP) (p : PlP) (t : List UInt8) : (layL st p t).length ≤ secN t.length + 1 := by
  have hn : (layP p t).length = secN t.length := by
    unfold layP
    rw [List.length_map, List.length_range]
  unfold layL
  rw [List.length_append, List.length_map, revJ_len, hn]
  unfold layE
  split <;> simp <;> omega

structure GoodS (d : Dk) (st : StP) (ts : List (List UInt8)) (ps : List PairP) : Prop where
  good : GoodR sumH st.sz st.pl.gen ts ps (halfD d.ss (st.fr + st.pl.half * st.sz) st.sz) (halfD d.ss (st.fr + (1 - st.pl.half) * st.sz) st.sz)
  up : d.down = false
  ca : d.ca ≤ 0
  ah : d.ah ≤ d.wr
  used : st.pl.at_ = usedR ts
  num : st.pl.num = ts.length
  half : st.pl.half ≤ 1
  lost : st.lost = false
  fit : st.fr + 2 * st.sz ≤ d.ss.length
  sz : 2 ≤ st.sz ∧ st.sz ≤ 2100
  gen : st.pl.gen ≤ 1000000

section
variable {d : Dk} {st : StP} {ts : List (List UInt8)} {ps : List PairP}
theorem GoodS.off (h : GoodS d st ts ps) (k : Nat) (hk : k ≤ 1) : st.fr + k * st.sz + st.sz ≤ d.ss.length := by
  have := h.fit
  rcases (show k = 0 ∨ k = 1 by omega) with rfl | rfl <;> omega
theorem off_apart (st : StP) (k : Nat) (hk : k ≤ 1) : st.fr + (1 - k) * st.sz + st.sz ≤ st.fr + k * st.sz ∨ st.fr + k * st.sz + st.sz ≤ st.fr + (1 - k) * st.sz := by
  rcases (show k = 0 ∨ k = 1 by omega) with rfl | rfl <;> omega
theorem run_good (hup : d.down = false) (hca : d.ca ≤ 0) (hah : d.ah ≤ d.wr) (l : List (Nat × List UInt8)) (hl : ∀ x ∈ l, x.1 < d.ss.length ∧ x.2.length ≤ 64) : runD d l = (⟨setsD d.ss l, d.ca, d.ct, false, d.wr + l.length, d.ah⟩, 0) :=
  run_free l d hup hl (fun j hj => by omega)
theorem GoodS.stays (h : GoodS d st ts ps) {l : List Ch} (hl : ∀ c ∈ l, c.fits) (hr : usedR ts + secN (printL l).length ≤ st.sz) :
    ∃ d', runD d (layL st st.pl (printL l)) = (d', 0) ∧ GoodS d' (layS st st.pl (printL l).length 0) (ts ++ [printL l]) (behindP ps l) ∧ d'.wr ≤ d.wr + 2101 ∧ d'.ss.length = d.ss.length ∧ d'.ah = d.ah := by
  have ho := h.off st.pl.half h.half
  have hf : st.pl.at_ + secN (printL l).length ≤ st.sz := by rw [h.used]; exact hr
  refine ⟨_, run_good h.up h.ca h.ah _ (layL_ok st st.pl _ _ ho hf), ⟨?_, rfl, h.ca, by show d.ah ≤ d.wr + _; have := h.ah; omega, ?_, ?_, h.half, h.lost, by show _ ≤ (setsD _ _).length; rw [sets_len]; exact h.fit, h.sz, h.gen⟩, ?_, ?_, rfl⟩
  · show GoodR sumH st.sz st.pl.gen (ts ++ [printL l]) (behindP ps l) (halfD (setsD d.ss (layL st st.pl (printL l))) (st.fr + st.pl.half * st.sz) st.sz) (halfD (setsD d.ss (layL st st.pl (printL l))) (st.fr + (1 - st.pl.half) * st.sz) st.sz)
    rw [lay_in_half st st.pl _ d.ss ho hf, lay_apart st st.pl _ d.ss ho hf _ (off_apart st _ h.half), h.used, h.num]
    exact h.good.stays hl hr
  · show st.pl.at_ + secN (printL l).length = _
    rw [h.used, used_append]
    show _ = _ + (secN (printL l).length + 0)
    omega
  · show st.pl.num + 1 = _
    rw [h.num, List.length_append]
    rfl
  · have := layL_len st st.pl (printL l)
    have := h.sz.2
    show d.wr + ((layL st st.pl (printL l)).length : Int) ≤ _
    omega
  · show (setsD _ _).length = _
    rw [sets_len]
theorem GoodS.goes (h : GoodS d st ts ps) (hg : st.pl.gen < 1000000) {l : List Ch} (hl : ∀ c ∈ l, c.fits) (hr : secN (sizeP (behindP ps l)) ≤ st.sz) :
    ∃ d', overD d st (behindP ps l) = (d', 0) ∧ GoodS d' (layS st (overP st.pl) (sizeP (behindP ps l)) 0) [printL (wholeP (behindP ps l))] (behindP ps l) ∧ d'.wr ≤ d.wr + 2102 ∧ d'.ss.length = d.ss.length ∧ d'.ah = d.ah := by
  have ho := h.off (1 - st.pl.half) (by omega)
  have hsl : (printL (wholeP (behindP ps l))).length = sizeP (behindP ps l) := whole_len _
  have hf : (overP st.pl).at_ + secN (printL (wholeP (behindP ps l))).length ≤ st.sz := by rw [hsl]; show 0 + _ ≤ _; omega
  have hok : ∀ x ∈ overL st (printL (wholeP (behindP ps l))), x.1 < d.ss.length ∧ x.2.length ≤ 64 := fun x hx => by
    rcases List.mem_cons.1 hx with rfl | hx
    · have := h.sz.1
      exact ⟨by show st.fr + (1 - st.pl.half) * st.sz + 0 < _; omega, by simp⟩
    · exact layL_ok st (overP st.pl) _ _ ho hf x hx
  have hov : overD d st (behindP ps l) = runD d (overL st (printL (wholeP (behindP ps l)))) := by
    unfold overD
    rw [if_neg (by omega)]
  have hsets : setsD d.ss (overL st (printL (wholeP (behindP ps l)))) = setsD (d.ss.set (st.fr + (1 - st.pl.half) * st.sz) emptyR) (layL st (overP st.pl) (printL (wholeP (behindP ps l)))) := by
    unfold overL
    rfl
  have hlen1 : (d.ss.set (st.fr + (1 - st.pl.half) * st.sz) emptyR).length = d.ss.length := List.length_set ..
  have ho2 : st.fr + (overP st.pl).half * st.sz + st.sz ≤ (d.ss.set (st.fr + (1 - st.pl.half) * st.sz) emptyR).length := by rw [hlen1]; exact ho
  have hh : 1 - (1 - st.pl.half) = st.pl.half := by have := h.half; omega
  refine ⟨_, hov.trans (run_good h.up h.ca h.ah _ hok), ⟨?_, rfl, h.ca, by show d.ah ≤ d.wr + _; have := h.ah; omega, ?_, rfl, by show 1 - st.pl.half ≤ 1; omega, h.lost, by show _ ≤ (setsD _ _).length; rw [sets_len]; exact h.fit, h.sz, by show st.pl.gen + 1 ≤ _; omega⟩, ?_, ?_, rfl⟩
  · show GoodR sumH st.sz (st.pl.gen + 1) [printL (wholeP (behindP ps l))] (behindP ps l) (halfD (setsD d.ss (overL st (printL (wholeP (behindP ps l))))) (st.fr + (1 - st.pl.half) * st.sz) st.sz) (halfD (setsD d.ss (overL st (printL (wholeP (behindP ps l))))) (st.fr + (1 - (1 - st.pl.half)) * st.sz) st.sz)
    rw [hsets, hh]
    have e1 := lay_in_half st (overP st.pl) (printL (wholeP (behindP ps l))) _ ho2 hf
    have e2 := lay_apart st (overP st.pl) (printL (wholeP (behindP ps l))) _ ho2 hf (st.fr + st.pl.half * st.sz) (by
      have := off_apart st st.pl.half h.half
      show _ ∨ st.fr + (1 - st.pl.half) * st.sz + st.sz ≤ _
      show st.fr + st.pl.half * st.sz + st.sz ≤ st.fr + (1 - st.pl.half) * st.sz ∨ _
      omega)
    rw [show (overP st.pl).half = 1 - st.pl.half from rfl] at e1
    rw [e1, e2]
    have hz := h.sz.1
    have e3 := half_set (ss := d.ss) (k := st.fr + (1 - st.pl.half) * st.sz) (sz := st.sz) (i := 0) (x := emptyR) ho (by omega)
    have e4 := half_set_apart (ss := d.ss) (k := st.fr + (1 - st.pl.half) * st.sz) (k2 := st.fr + st.pl.half * st.sz) (sz := st.sz) (i := 0) (x := emptyR) (by omega) (by
      have := off_apart st st.pl.half h.half
      omega)
    rw [Nat.add_zero] at e3 e4
    rw [e3, e4]
    exact h.good.goes sumH_len (by omega) (by have := h.sz.2; omega) hl hr
  · show 0 + secN (sizeP (behindP ps l)) = usedR _
    show _ = secN (printL (wholeP (behindP ps l))).length + 0
    rw [hsl]
    omega
  · have h1 := layL_len st (overP st.pl) (printL (wholeP (behindP ps l)))
    have h2 := h.sz.2
    rw [hsl] at h1
    show d.wr + ((overL st (printL (wholeP (behindP ps l)))).length : Int) ≤ _
    unfold overL
    rw [List.length_cons]
    omega
  · show (setsD _ _).length = _
    rw [sets_len]
end
end Go.Proofs.YtgpdplffljidbaaGreatDoor
