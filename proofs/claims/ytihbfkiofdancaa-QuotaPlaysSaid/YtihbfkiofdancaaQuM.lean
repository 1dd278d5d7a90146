/-
  The document's book: two rows of numbers; what its Take and its Give come to.
-/
import Derived.Test.YtihbfkiofdancaaQuI
import Derived.Laws.AppendOwn
import Derived.OwnWalk
import Derived.Deep.AppendLies
import Derived.Handy
import Derived.Deep.Cut
import Derived.Deep.RegionLaw
import Derived.Laws.OwnMore
import Derived.StillTailTactics
namespace Go.Proofs.Ytihbfkiofdancaa
open Go.RowKit Go.Maps

theorem infoInt9 : (Try.prog.info? 3).map (fun i => (i.zero, i.size, i.bytes)) = some (some (.int .i64 0), 1, 8) := by kernel_rfl
theorem info_parts9 {z : Value} {s b : Nat} {t : TypeId} (h : (Try.prog.info? t).map (fun i => (i.zero, i.size, i.bytes)) = some (some z, s, b)) : ∃ i, Try.prog.info? t = some i ∧ i.zero = some z ∧ i.size = s ∧ i.bytes = b := by
  obtain ⟨i, h1, h2⟩ := Option.map_eq_some_iff.1 h
  simp only [Prod.mk.injEq] at h2
  exact ⟨i, h1, h2.1, h2.2.1, h2.2.2⟩
theorem ownsRow_belowQ {w w' : World} {B e size n : Nat} {v : Value} {xs : List Value} (h : w.ownsRow B e size v n xs) (hb : Below w.heap.size w w') : w'.ownsRow B e size v n xs :=
  ⟨h.1, h.2.imp id fun ⟨g, cap, cur, h1, h2, h3, h4⟩ => ⟨g, cap, cur, h1, h2, (hb.block g (by
    rcases Nat.lt_or_ge g w.heap.size with h | h
    · exact h
    · rw [Array.getElem?_eq_none h] at h3; cases h3)).trans h3, h4⟩⟩

/-- Numbers as values. -/
def intsQ (n : Nat) (f : Nat → Int) : List Value := (List.range n).map fun i => .int .i64 (f i)
theorem intsQ_length (n : Nat) (f : Nat → Int) : (intsQ n f).length = n := by simp [intsQ]
theorem intsQ_get {n i : Nat} (f : Nat → Int) (h : i < n) : (intsQ n f)[i]? = some (.int .i64 (f i)) := by
  unfold intsQ
  rw [List.getElem?_map, List.getElem?_range h]
  rfl
theorem intsQ_one (n : Nat) (f : Nat → Int) : ∀ u ∈ intsQ n f, u.oneCell' = true := fun u hu => by
  obtain ⟨i, _, rfl⟩ := List.mem_map.1 hu
  rfl
theorem intsQ_congr {n : Nat} {f g : Nat → Int} (h : ∀ i, i < n → f i = g i) : intsQ n f = intsQ n g :=
  List.map_congr_left fun i hi => by rw [h i (List.mem_range.1 hi)]
theorem intsQ_set {n i : Nat} (f : Nat → Int) (x : Int) : (intsQ n f).set i (.int .i64 x) = intsQ n (fun j => if j = i then x else f j) := by
  apply List.ext_getElem?
  intro j
  by_cases hj : j < n
  · rw [intsQ_get _ hj, List.getElem?_set]
    by_cases e : i = j
    · subst e
      rw [if_pos rfl, if_pos (by rw [intsQ_length]; exact hj), if_pos rfl]
    · rw [if_neg e, intsQ_get _ hj, if_neg (fun h => e h.symm)]
  · rw [List.getElem?_eq_none (by rw [List.length_set, intsQ_length]; omega), List.getElem?_eq_none (by rw [intsQ_length]; omega)]

/-- The document's book, as a value whose rows lie from the block B on. -/
def RefB (w : World) (B : Nat) (v : Value) (n : Nat) (bo ta : Nat → Int) : Prop :=
  ∃ vb vt, v = .agg #[vb, vt] ∧ w.ownsRow B 3 1 vb n (intsQ n bo) ∧ w.ownsRow B 3 1 vt n (intsQ n ta)
theorem RefB.below {w w' : World} {B n : Nat} {v : Value} {bo ta : Nat → Int} (h : RefB w B v n bo ta) (hb : Below w.heap.size w w') : RefB w' B v n bo ta := by
  obtain ⟨vb, vt, h1, h2, h3⟩ := h
  exact ⟨vb, vt, h1, ownsRow_belowQ h2 hb, ownsRow_belowQ h3 hb⟩
theorem own_sliceQ {w : World} {B n : Nat} {v : Value} {f : Nat → Int} (h : w.ownsRow B 3 1 v n (intsQ n f)) (hn : 0 < n) : ∃ g cap, v = .slice (some ⟨g, 0, none⟩) n cap ∧ B ≤ g ∧ g < w.heap.size ∧ n ≤ cap ∧ cap ≤ maxLen ∧ (∀ i, i < n → w.cell? ⟨g, i, none⟩ = some (.int .i64 (f i))) ∧ ∀ j, w.frozen? ⟨g, j, none⟩ = false := by
  rcases h.2 with ⟨_, e⟩ | ⟨g, cap, cur, rfl, hb, hg, h1, h2, _⟩
  · omega
  · refine ⟨g, cap, rfl, hb, (Array.getElem?_eq_some_iff.1 hg).1, h1, h2, fun i hi => ?_, fun j => Lib.frozen_of_heap hg j⟩
    have := World.ownsRow.cells (g := g) h rfl i _ (intsQ_get f hi)
    rw [Addr.add_lit, Nat.zero_add] at this
    exact this
/-- An element of a row is set. -/
theorem own_setQ {w : World} {B e n g cap : Nat} {xs : List Value} (h : w.ownsRow B e 1 (.slice (some ⟨g, 0, none⟩) n cap) n xs) (i : Nat) (x : Value) : (w.setCell ⟨g, i, none⟩ x).ownsRow B e 1 (.slice (some ⟨g, 0, none⟩) n cap) n (xs.set i x) := by
  rcases h.2 with ⟨e2, _⟩ | ⟨g', cap', cur, e2, hb, hg, hnc, hcm, hcs, ht⟩
  · cases e2
  · cases e2
    refine ⟨by rw [List.length_set]; exact h.1, .inr ⟨g, cap, cur.setIfInBounds i x, rfl, hb, set_block hg, hnc, hcm, by rw [Array.size_setIfInBounds]; exact hcs, ?_⟩⟩
    rw [Array.toList_setIfInBounds, List.take_set, ht]
/-- A block of two values. -/
theorem cells_two {w : World} {b t : Nat} {x y : Value} (h : w.heap[b]? = some (.cells #[x, y] t (0, 0))) : w.cell? ⟨b, 0, none⟩ = some x ∧ w.cell? ⟨b, 1, none⟩ = some y ∧ ∀ j, w.frozen? ⟨b, j, none⟩ = false := by
  refine ⟨?_, ?_, fun j => Lib.frozen_of_heap h j⟩ <;> rw [Lib.cell_of_heap h] <;> rfl

set_option maxRecDepth 100000 in
set_option maxHeartbeats 4000000 in
theorem mwith_any (B : Nat) (v : Value) (n : Nat) (bo ta : Nat → Int) (w : World) (h : RefB w B v n bo ta) (hB : B ≤ w.heap.size) (hn16 : n ≤ 16) (i : Nat) (hi : i < n) (x : Int) :
    Calls Try.prog 20 #[v, .int .i64 (i : Int), .int .i64 x] w fun e w' => ∃ v', e = .returned v' ∧ RefB w' B v' n bo (fun j => if j = i then x else ta j) ∧ Below w.heap.size w w' := by
  obtain ⟨vb, vt, rfl, hb, ht⟩ := h
  obtain ⟨i0, hi0, hz0, hz1, hz2⟩ := info_parts9 infoInt9
  obtain ⟨gb, cb, rfl, hBb, hgb, _, _, _, _⟩ := own_sliceQ hb (by omega)
  obtain ⟨g, cap, rfl, hBg, hg, hnc, hcm, hc, _⟩ := own_sliceQ ht (by omega)
  have Hb := Lib.hid hb
  have Hc := Lib.hid hc
  clear hb ht hc
  go_enter Try.func20, Try.ntmps20
  go_upto_region 1 with fail
  have hw2 : Below w.heap.size w ((w.alloc (.cells #[.slice (some ⟨gb, 0, none⟩) n cb, .slice (some ⟨g, 0, none⟩) n cap] 30)).alloc (.cells #[.slice none 0 0, .slice none 0 0] 30)) := ((Below.refl _ w).alloc (Nat.le_refl _) _).alloc (by simp) _
  have hd2 : ((w.alloc (.cells #[.slice (some ⟨gb, 0, none⟩) n cb, .slice (some ⟨g, 0, none⟩) n cap] 30)).alloc (.cells #[.slice none 0 0, .slice none 0 0] 30)).heap[w.heap.size]? = some (.cells #[.slice (some ⟨gb, 0, none⟩) n cb, .slice (some ⟨g, 0, none⟩) n cap] 30 (0, 0)) := by
    rw [heap_alloc_old _ _ (by simp)]
    exact heap_alloc_new w _
  have hr2 : ((w.alloc (.cells #[.slice (some ⟨gb, 0, none⟩) n cb, .slice (some ⟨g, 0, none⟩) n cap] 30)).alloc (.cells #[.slice none 0 0, .slice none 0 0] 30)).heap[w.heap.size + 1]? = some (.cells #[.slice none 0 0, .slice none 0 0] 30 (0, 0)) := by
    have := heap_alloc_new (w.alloc (.cells #[.slice (some ⟨gb, 0, none⟩) n cb, .slice (some ⟨g, 0, none⟩) n cap] 30)) (.cells #[.slice none 0 0, .slice none 0 0] 30)
    simpa using this
  generalize (w.alloc (.cells #[.slice (some ⟨gb, 0, none⟩) n cb, .slice (some ⟨g, 0, none⟩) n cap] 30)).alloc (.cells #[.slice none 0 0, .slice none 0 0] 30) = w2 at hw2 hd2 hr2 ⊢
  have hdl : w.heap.size < w2.heap.size := (Array.getElem?_eq_some_iff.1 hd2).1
  have hrl : w.heap.size + 1 < w2.heap.size := (Array.getElem?_eq_some_iff.1 hr2).1
  obtain ⟨db, hdb⟩ : ∃ db, w.heap.size = db := ⟨_, rfl⟩
  rw [hdb] at hw2 hd2 hr2 hdl hrl hg hgb hB ⊢
  obtain ⟨z0, z1, zf⟩ := cells_two hd2
  have hsrc : Hid (∀ (W : World) j u, Below w2.heap.size w2 W → (intsQ n ta)[j]? = some u → W.cell? ((⟨g, 0, none⟩ : Addr).add j) = some u) := Lib.hid fun W j u hW hj => by
    have hjn : j < n := by
      have := (List.getElem?_eq_some_iff.1 hj).1
      rw [intsQ_length] at this
      exact this
    rw [intsQ_get ta hjn] at hj
    rw [Addr.add_lit, Nat.zero_add, hW.cell (p := ⟨g, j, none⟩) (by show g < _; omega), hw2.cell (p := ⟨g, j, none⟩) hg, Hc.out j hjn]
    exact hj
  have Hd2 := Lib.hid hd2
  have Hr2 := Lib.hid hr2
  clear hd2 hr2
  go_upto_region 2 with (at_builtin; refine wpList_append_own _ rfl _ _ 22 rfl w2.heap.size 3 i0 (.int .i64 0) 1 8 Try.underlying22 hi0 hz0 hz1 hz2 rfl (by decide) _ _ _ rfl (World.ownsRow_made w2 #[] 0 (Nat.le_refl _) (Nat.zero_le _) rfl) ⟨g, 0, none⟩ n cap (intsQ n ta) rfl (by rw [intsQ_length, Nat.mul_one]) (fun j u hj => hsrc.out _ j u ((Below.refl _ w2).alloc (Nat.le_refl _) _) hj) (intsQ_one n ta) (by unfold maxLen; omega) (by omega) (by simp) ?_; intro v' w3 hown hgrow hnil; rw [Nat.zero_add, List.nil_append] at hown; obtain ⟨g1, cap1, rfl, hg1, hg1l, hc1, hc1m, _, _⟩ := own_sliceQ hown (by omega); have hb3 : Below w2.heap.size w2 w3 := ((Below.refl _ w2).alloc (Nat.le_refl _) _).grown hgrow (by simp) (fun k hk => by have hk2 : some w2.heap.size = some k := hk; simp at hk2; omega); obtain ⟨y0, y1, yf⟩ := cells_two ((hb3.block db hdl).trans Hd2.out); have Hown := Lib.hid hown; clear hown hgrow hnil)
  have hd4 := set_block (j := 1) (x := .slice (some ⟨g1, 0, none⟩) n cap1) ((hb3.block db hdl).trans Hd2.out)
  have ht4 : Turned (fun b => b = db) w3 (w3.setCell ⟨db, 1, none⟩ (.slice (some ⟨g1, 0, none⟩) n cap1)) := Turned.set rfl
  have hr4 := ht4.heap ((hb3.block (db + 1) hrl).trans Hr2.out) (fun e => by omega)
  have hown4 := ht4.row Hown.out (fun b hb e => by
    have hb2 : some g1 = some b := hb
    simp at hb2
    omega)
  have hb4 : Below db w (w3.setCell ⟨db, 1, none⟩ (.slice (some ⟨g1, 0, none⟩) n cap1)) := (hw2.trans (hb3.mono (by omega))).setCell (p := ⟨db, 1, none⟩) (Nat.le_refl _) _
  replace hd4 : (w3.setCell ⟨db, 1, none⟩ (.slice (some ⟨g1, 0, none⟩) n cap1)).heap[db]? = some (.cells #[.slice (some ⟨gb, 0, none⟩) n cb, .slice (some ⟨g1, 0, none⟩) n cap1] 30 (0, 0)) := hd4
  generalize w3.setCell ⟨db, 1, none⟩ (.slice (some ⟨g1, 0, none⟩) n cap1) = w4 at hd4 hr4 hown4 hb4 ⊢
  have hgd : g1 ≠ db := by omega
  have hgr : g1 ≠ db + 1 := by omega
  clear hb3 Hd2 Hr2 Hown hsrc z0 z1 zf y0 y1 yf hw2 ht4
  obtain ⟨_, _, _, _, _, _, _, hcc, hff⟩ := own_sliceQ hown4 (by omega)
  obtain ⟨z0, z1, zf⟩ := cells_two hd4
  have hold := hcc i hi
  have hof := hff i
  have hgl : g1 < w4.heap.size := by
    rcases hown4.2 with ⟨e, _⟩ | ⟨g', cap', cur, e, _, hh, _⟩
    · cases e
    · cases e
      exact (Array.getElem?_eq_some_iff.1 hh).1
  clear hcc hff
  have HO4 := Lib.hid (And.intro hown4 (And.intro hd4 (And.intro hr4 hb4)))
  clear hown4 hd4 hr4 hb4
  go_upto_region 3 with fail
  obtain ⟨hown4, hd4, hr4, hb4⟩ := HO4.out
  have t5 : Turned (fun b => b = g1) w4 (w4.setCell ⟨g1, i, none⟩ (.int .i64 x)) := Turned.set rfl
  have d5 := t5.heap hd4 (fun e => hgd e.symm)
  have r5 := t5.heap hr4 (fun e => hgr e.symm)
  have o5 := own_setQ hown4 i (.int .i64 x)
  rw [intsQ_set] at o5
  have b5 : Below db w (w4.setCell ⟨g1, i, none⟩ (.int .i64 x)) := hb4.setCell (p := ⟨g1, i, none⟩) (by show db ≤ g1; omega) _
  generalize w4.setCell ⟨g1, i, none⟩ (.int .i64 x) = w5 at d5 r5 o5 b5 ⊢
  clear hown4 hd4 hr4 hb4 HO4 t5 hold hof z0 z1 zf
  obtain ⟨z0, z1, zf⟩ := cells_two d5
  obtain ⟨x0, x1, xf⟩ := cells_two r5
  have t6 : Turned (fun b => b = db + 1) w5 ((w5.setCell ⟨db + 1, 0, none⟩ (.slice (some ⟨gb, 0, none⟩) n cb)).setCell ⟨db + 1, 1, none⟩ (.slice (some ⟨g1, 0, none⟩) n cap1)) := (Turned.set (S := fun b => b = db + 1) rfl).trans (Turned.set (S := fun b => b = db + 1) rfl) (fun b hb => .inl hb)
  have o6 := t6.row o5 (fun b hb e => by
    have hb2 : some g1 = some b := hb
    simp at hb2
    omega)
  have b6 : Below db w ((w5.setCell ⟨db + 1, 0, none⟩ (.slice (some ⟨gb, 0, none⟩) n cb)).setCell ⟨db + 1, 1, none⟩ (.slice (some ⟨g1, 0, none⟩) n cap1)) := (b5.setCell (p := ⟨db + 1, 0, none⟩) (by show db ≤ db + 1; omega) _).setCell (p := ⟨db + 1, 1, none⟩) (by show db ≤ db + 1; omega) _
  have HH := Lib.hid (And.intro o6 b6)
  clear o5 o6 b5 b6 t6 d5 r5
  go_wp2
  exact bodyPost_ret (v := .agg #[.slice (some ⟨gb, 0, none⟩) n cb, .slice (some ⟨g1, 0, none⟩) n cap1]) (by simp [results, Try.results20, go_sem, x0, x1]) rfl ⟨_, rfl, ⟨_, _, rfl, ownsRow_belowQ Hb.out (by rw [hdb]; exact HH.out.2), row_more HH.out.1 (by omega)⟩, by rw [hdb]; exact HH.out.2⟩
end Go.Proofs.Ytihbfkiofdancaa
