/-
  Texts of this proof, put together: StO.
-/
import Derived.Test.YtcjmpkfcjcoobaaGreatX43
import Derived.Maps.RangeWalk
import Derived.Sort.KeysCollected
import Derived.Sort.OwnSorted
namespace Go.Proofs.YtcjmpkfcjcoobaaGreat
open Go.RowKit Go.Maps

theorem encStr_text (s : List UInt8) : encStr s = .string (textQ s) := rfl
theorem pre9 (pre : List UInt8) (k : List UInt8) : Lib.hasPrefix k pre = (k.take pre.length == pre) := by
  rw [pre_take, Bool.eq_iff_iff, decide_eq_true_iff, beq_iff_eq]
theorem ranges_turn9 {H : Type} {P : Program} {k : TypeId} {R : Value → Option (DataW H × List MemPlace)} {w w' : World} {b r n : Nat} {D : DataW H} {left : Lit → Bool} {cnt : Nat} {S : Nat → Prop} (h : w.ranges P k R b r n D left cnt) (t : Turned S w w') (h1 : ¬ S b) (h2 : ¬ S r) : w'.ranges P k R b r n D left cnt := by
  obtain ⟨es, clock, since, seen, c0, hb, F, hs, hD, hr, rest⟩ := h
  exact ⟨es, clock, since, seen, c0, t.heap hb h1, F, hs, hD, t.heap hr h2, rest⟩
theorem valR_inv9 {v : Value} {y : DataW Unit × List MemPlace} (h : valR v = some y) : ∃ c : ByteArray, v = .agg #[.string c] := by
  cases v with
  | agg cs =>
    obtain ⟨s, hs, _⟩ := valL_inv (show valL cs.toList = some y from h)
    refine ⟨s, ?_⟩
    rw [show cs = #[.string s] from Array.toList_inj.1 hs]
  | _ => cases h
/-- The keys that were met, sorted, of those that begin so. -/
theorem keys_sorted9 {w : World} {m n : Nat} {ps : List PairP} {D : DataW Unit} (hs : SortedP ps) (hown : w.ownsMap Tryz.prog 9 valR m n D) (ht : TellsD D ps) {ss : List (List UInt8)} (hperm : ss.Perm (strKeys D)) (pre : List UInt8) :
    (ss.filter fun k => Lib.hasPrefix k pre).mergeSort (fun x y => decide (x ≤ y)) = keysP ps pre := by
  obtain ⟨es, rfl, hkeys⟩ := hown.keysOf
  obtain ⟨hsorted, hnodup⟩ := sorted_keys hs
  obtain ⟨es2, he2, hap⟩ := hown.tidy keyedStr
  cases he2
  have hp2 : (ps.map (·.1)).Perm (strKeys (.map es)) := by
    refine perm_strKeys hap (fun p hp => ?_) hnodup fun x => ?_
    · obtain ⟨v0, hv0⟩ := hkeys p hp
      obtain ⟨x, _, hx, _⟩ := Maps.keyOf_str Tryz.underlying9 hv0
      exact ⟨x, hx⟩
    · rw [← find_mem]
      constructor
      · rintro ⟨v0, hv0⟩
        exact ((ht x).2 v0 hv0).1
      · intro hx
        cases hf : findP ps x with
        | none =>
          have := (ht x).1 hf
          rw [hx] at this
          cases this
        | some v0 => exact ⟨v0, rfl⟩
  have hp3 : (ss.filter fun k => Lib.hasPrefix k pre).Perm (keysP ps pre) := by
    have := (hperm.trans hp2.symm).filter (fun k => Lib.hasPrefix k pre)
    unfold keysP
    rw [show (fun k : KeyP => k.take pre.length == pre) = fun k => Lib.hasPrefix k pre from funext fun k => (pre9 pre k).symm]
    exact this
  have := mergeSort_of_perm hp3
  show (ss.filter fun k => Lib.hasPrefix k pre).mergeSort leB = _
  rw [this]
  exact List.mergeSort_of_pairwise (hsorted.filter _)

set_option maxRecDepth 100000 in
set_option maxHeartbeats 4000000 in
theorem keys_any (B N Nd g m n : Nat) (cs : Array Value) (st : StP) (d : Dk) (ps : List PairP) (w : World) (h : StoreAt w B N Nd g m n cs st d ps) (hn : n ≤ 100000000) (pre : List UInt8) :
    Calls Tryz.prog 23 #[.pointer (some ⟨N, 0, none⟩), .string (textQ pre)] w fun e w' => ∃ v, e = .returned v ∧ OwnT9 w.heap.size w' v (keysP ps pre) ∧ Below w.heap.size w w' := by
  have c7 := h.held.cell 7
  rw [h.ok.c7] at c7
  have hsort := h.map.sorted
  have hml := h.map.lt
  obtain ⟨D, hown, ht⟩ := h.map.data
  have hD := hown
  obtain ⟨PT, hPT⟩ : ∃ PT, textQ pre = PT := ⟨_, rfl⟩
  rw [hPT]
  have HS := Lib.hid (And.intro hsort (And.intro hown (And.intro ht hPT)))
  clear h hsort ht hD hPT
  go_enter Tryz.func23, Tryz.ntmps23
  go_wp2_with (first
    | (at_range; refine wpList_range_own _ rfl _ 87 rfl 9 _ keyedStr Tryz.underlying87 valR m n D rfl hown ?_; intro w0 hrg0 hg0 hs0)
    | go_in)
  go_frame
  have hb0 : Below w.heap.size w w0 := (Below.refl _ w).grown hg0 (Nat.le_refl _) (fun k hk => by cases hk)
  have HB0 := Lib.hid hb0
  clear hown hg0 hb0
  go_loopw [5] (fun v wr => ∃ (left : Lit → Bool) (cnt : Nat) (ss : List (List UInt8)), wr.ranges Tryz.prog 9 valR m w.heap.size n D left cnt ∧ Collected D left ss ∧ ss.length + cnt ≤ 100000000 ∧ OwnT9 (w.heap.size + 1) wr v (ss.filter fun k => Lib.hasPrefix k pre) ∧ Below w.heap.size w wr)
    (fun _ wr => wr.rangeLeft m w.heap.size)
  case atStart => exact ⟨_, _, [], hrg0, Collected.start D, by have := HS.out.2.1.size_le; simp; omega, World.ownsRow_nil _ _ _ _, HB0.out⟩
  case round =>
    clear hrg0
    obtain ⟨left, cnt, ss, hrg, hC, hcl, hown, hb⟩ := hrel
    have hHid := Lib.hid (And.intro hown hb)
    have hwz := hb.size
    clear hown hb
    go_wp2_with (first
      | (at_next; refine wpList_next_ranges _ rfl _ rfl 9 keyedStr valR encStr (fun s : ByteArray => Value.agg #[.string s]) (fun key kl h => by obtain ⟨x, hx, _⟩ := Maps.keyOf_str Tryz.underlying9 h; exact ⟨x, hx⟩) (fun v y hv => valR_inv9 hv) m w.heap.size n _ _ _ rfl hrg ?_ ?_)
      | go_in)
    · intro hc0 hl0
      have hperm := hC.perm hrg.owns keyedStr Tryz.underlying9 hl0
      obtain ⟨hsort, hownD, ht, hPT⟩ := HS.out
      have hks := keys_sorted9 hsort hownD ht hperm pre
      obtain ⟨hown, hb⟩ := hHid.out
      have hkl : (keysP ps pre).length = (ss.filter fun k => Lib.hasPrefix k pre).length := by rw [← hks, List.length_mergeSort]
      rcases hown.2 with ⟨hnil, hz⟩ | ⟨g0, cap, cur, hv, hbase, hbl, h1, h2, h3, h4⟩
      · subst hnil
        have hkn : keysP ps pre = [] := List.eq_nil_of_length_eq_zero (by rw [hkl]; exact hz)
        have hso := AnyM.slices_Sort_string_none Tryz.sort8 none 0 wr
        have HF := Lib.hid (And.intro hkn hb)
        clear hown hb hks hperm hC hsort hownD ht hPT hkl hz hkn
        go_wp2_with (go_at_call 45; refine hso.mono ?_; rintro e w9 ⟨rfl, h9⟩; obtain rfl := h9.symm; clear h9)
        go_ret
        exact ⟨_, rfl, by rw [HF.out.1]; exact World.ownsRow_nil _ _ _ _, HF.out.2⟩
      · subst hv
        obtain ⟨L, hL⟩ : ∃ L, (ss.filter fun k => Lib.hasPrefix k pre) = L := ⟨_, rfl⟩
        rw [hL] at hown hks hkl h1 h4 ⊢
        have hH : Sort.Holds encStr wr g0 0 L.toArray := holds_of_block hbl (by rw [Nat.mul_one] at h4; exact h4)
        have hso := AnyM.slices_Sort_string Tryz.sort8 g0 0 cap L wr hH (Array.getElem?_eq_some_iff.1 hbl).1 (by
          have : L.length ≤ ss.length := by rw [← hL]; exact List.length_filter_le _ _
          omega)
        have HF := Lib.hid (And.intro hks (And.intro hb (And.intro hbase (And.intro hbl (And.intro h1 (And.intro h2 h3))))))
        clear hown hb hks hperm hC hsort hownD ht hPT hkl hbase hbl h1 h2 h3 h4 hH hL
        go_wp2_with (go_at_call 45; refine hso.mono ?_; rintro e w9 ⟨rfl, n9, os, rfl⟩)
        obtain ⟨hks, hb, hbase, hbl, h1, h2, h3⟩ := HF.out
        have hrow := ownsRow_sorted (n := n9) (os := os) (show (L.mergeSort fun x y => decide (x ≤ y)).length = L.length from List.length_mergeSort ..) hbase hbl h1 h2 h3
        have hgr := grownBy_sorted (w := wr) (g := g0) (n := n9) (os := os) (L.mergeSort fun x y => decide (x ≤ y)).toArray
        have hb9 := hb.grown hgr hb.size (fun k hk => by cases hk; omega)
        have hlen : L.length = (keysP ps pre).length := by rw [← hks, List.length_mergeSort]
        rw [hks] at hrow hb9
        have HG := Lib.hid (And.intro hrow hb9)
        clear hrow hgr hb9 hb hbl hso
        go_wp2_with fail
        go_ret
        refine ⟨_, rfl, ?_, by rw [hks]; exact HG.out.2⟩
        have := row_more HG.out.1 (show w.heap.size ≤ w.heap.size + 1 by omega)
        rw [hlen] at this ⊢
        rw [hks]
        exact this
    · intro x c kl y1 y2 w1 cnt1 hkey hlk hv hat hrg1 hlt hg1 hs1 hen
      obtain ⟨x', ex, rfl, hxl⟩ := Maps.keyOf_str Tryz.underlying9 hkey
      cases encStr_inj ex
      obtain ⟨KT, hKT⟩ : ∃ KT, textQ x = KT := ⟨_, rfl⟩
      rw [encStr_text, hKT] at hen ⊢
      have hpre := has_pre9 KT PT w1
      rw [show Lib.hasPrefix KT.data.toList PT.data.toList = Lib.hasPrefix x pre by rw [← hKT, ← HS.out.2.2.2]; rfl] at hpre
      obtain ⟨hown, hb⟩ := hHid.out
      have t1 : Turned (fun b => b = w.heap.size) wr w1 := Turned.of_grown hg1 (fun k hk => .inl (by cases hk; rfl))
      have hown1 := t1.row hown (fun b hb' e => by have := (row_block hown hb').1; omega)
      have hb1 := hb.trans (t1.below hwz (fun b e => by omega))
      have hC1 := hC.step hlk hat
      obtain ⟨L, hL⟩ : ∃ L, (ss.filter fun k => Lib.hasPrefix k pre) = L := ⟨_, rfl⟩
      have hll : L.length ≤ ss.length := by rw [← hL]; exact List.length_filter_le _ _
      rw [hL] at hown1
      have HX := Lib.hid (And.intro hrg1 (And.intro hown1 (And.intro hb1 (And.intro hC1 hL))))
      have Hrg := Lib.hid (And.intro hrg hlt)
      have HKT := Lib.hid hKT
      have hwz1 : w.heap.size ≤ w1.heap.size := by omega
      clear hrg1 hb1 hC1 hown hb t1 hkey hlk hv hat hg1 hC hrg hHid hKT hlt hL hs1 hwz
      cases hp : Lib.hasPrefix x pre with
      | false =>
        rw [hp] at hpre
        have hf : ((ss ++ [x]).filter fun k => Lib.hasPrefix k pre) = L := by rw [List.filter_append, HX.out.2.2.2.2]; simp [hp]
        have HFf := Lib.hid hf
        clear hf hown1
        go_wp2_with (go_at_call 44; refine hpre.mono ?_; rintro e w9 ⟨rfl, h9⟩; obtain rfl := h9.symm; clear h9)
        go_roundw
        case rel => exact ⟨_, cnt1, ss ++ [x], HX.out.1, HX.out.2.2.2.1, by rw [List.length_append]; have := Hrg.out.2; simp; omega, by rw [HFf.out]; exact HX.out.2.1, HX.out.2.2.1⟩
        case measure => rw [HX.out.1.left_eq, Hrg.out.1.left_eq]; exact Hrg.out.2
      | true =>
        rw [hp] at hpre
        have hf : ((ss ++ [x]).filter fun k => Lib.hasPrefix k pre) = L ++ [x] := by rw [List.filter_append, HX.out.2.2.2.2]; simp [hp]
        have HFf := Lib.hid hf
        have hr2 := hown1.alloc (.cells #[.string KT] 9)
        have Hr2 := Lib.hid hr2
        clear hf hr2 hown1
        go_upto_region 6 with (go_at_call 44; refine hpre.mono ?_; rintro e w9 ⟨rfl, h9⟩; obtain rfl := h9.symm; clear h9)
        have hkt := HKT.out
        subst hkt
        go_wp2_with (at_builtin; refine wpList_append_t rfl _ _ rfl (w.heap.size + 1) _ L x rfl Hr2.out (by simp; omega) (by omega) w1.heap.size 1 rfl (by go_simp) ?_; intro v2 w2 hown2 ht2 hf2; have Hx := Lib.hid (And.intro hown2 ht2); clear hown2 ht2 hf2)
        have hrowb : ∀ b, blkOf u5 b → w.heap.size + 1 ≤ b := fun b e => (row_block HX.out.2.1 e).1
        have hrg2 := ranges_turn9 (HX.out.1.alloc (.cells #[.string (textQ x)] 9)) Hx.out.2 (fun e => by have := hrowb _ e; omega) (fun e => by have := hrowb _ e; omega)
        have hb2 := (HX.out.2.2.1.alloc hwz1 (.cells #[.string (textQ x)] 9)).trans (Hx.out.2.below (by simp; omega) (fun b e => by have := hrowb b e; omega))
        have HZ := Lib.hid (And.intro hrg2 hb2)
        clear hrg2 hb2
        go_wp2_with fail
        go_roundw
        case rel => exact ⟨_, cnt1, ss ++ [x], HZ.out.1, HX.out.2.2.2.1, by rw [List.length_append]; have := Hrg.out.2; simp; omega, by rw [HFf.out]; exact Hx.out.1, HZ.out.2⟩
        case measure => rw [HZ.out.1.left_eq, Hrg.out.1.left_eq]; exact Hrg.out.2
end Go.Proofs.YtcjmpkfcjcoobaaGreat
