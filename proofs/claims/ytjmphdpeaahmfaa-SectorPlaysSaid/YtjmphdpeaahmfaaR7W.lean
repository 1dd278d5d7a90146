/-
  The document's disk: what its Write comes to, told by the plain disk.
-/
import Derived.Test.YtjmphdpeaahmfaaR7N
import Derived.Test.YtjmphdpeaahmfaaEightS
import Derived.Laws.OwnMore
namespace Go.Proofs.Ytjmphdpeaahmfaa
open Go.RowKit

/-- Its cut comes at the number of the plain disk's. -/
theorem ref_hit {d : Dk} (hok : d.ok) : (1 ≤ refA d ∧ refA d = d.wr - d.ah + 1) ↔ d.wr + 1 - d.ah = d.ca := by
  have h1 := hok.ah
  have h2 := hok.wr
  unfold refA
  split <;> omega
theorem ref_armed {d : Dk} (hok : d.ok) (h : d.wr + 1 - d.ah = d.ca) : refT d = d.ct := by
  have h1 := hok.ah
  have h2 := hok.wr
  unfold refT
  rw [if_neg (by omega)]

theorem own_slice {w : World} {B e n : Nat} {v : Value} {xs : List Value} (h : w.ownsRow B e 1 v n xs) (hn : 0 < n) : ∃ g cap, v = .slice (some ⟨g, 0, none⟩) n cap ∧ B ≤ g ∧ g < w.heap.size ∧ n ≤ cap ∧ cap ≤ maxLen := by
  rcases h.2 with ⟨_, e2⟩ | ⟨g, cap, cur, rfl, hb, hg, hnc, hcm, _⟩
  · omega
  · exact ⟨g, cap, rfl, hb, (Array.getElem?_eq_some_iff.1 hg).1, hnc, hcm⟩

/-- An element of a row is set. -/
theorem own_set {w : World} {B e n g cap : Nat} {xs : List Value} (h : w.ownsRow B e 1 (.slice (some ⟨g, 0, none⟩) n cap) n xs) (i : Nat) (x : Value) : (w.setCell ⟨g, i, none⟩ x).ownsRow B e 1 (.slice (some ⟨g, 0, none⟩) n cap) n (xs.set i x) := by
  rcases h.2 with ⟨e2, _⟩ | ⟨g', cap', cur, e2, hb, hg, hnc, hcm, hcs, ht⟩
  · cases e2
  · cases e2
    refine ⟨by rw [List.length_set]; exact h.1, .inr ⟨g, cap, cur.setIfInBounds i x, rfl, hb, set_block hg, hnc, hcm, by rw [Array.size_setIfInBounds]; exact hcs, ?_⟩⟩
    rw [Array.toList_setIfInBounds, List.take_set, ht]
/-- The plain disk's texts behind a sector's write. -/
theorem map_set_text (ss : List (List UInt8)) (i : Nat) (s : List UInt8) : (ss.set i s).map (fun s => Value.string (textD s)) = (ss.map fun s => Value.string (textD s)).set i (.string (textD s)) := by rw [List.map_set]

set_option maxRecDepth 100000 in
set_option maxHeartbeats 8000000 in
theorem dwrite_any (B : Nat) (d : Dk) (v : Value) (w : World) (h : RefAt w B v d) (hB : B ≤ w.heap.size) (hok : d.ok) (hn : 0 < d.ss.length) (hn2 : d.ss.length ≤ 4096) (hwr : d.wr ≤ 1000000) (p : Int) (x : ByteArray) (hx : x.size ≤ 1000000) :
    Calls Try.prog 11 #[refV v d, .int .i64 p, .string x] w fun e w' => ∃ v', e = .returned (.tuple #[refV v' (writeD d p x.data.toList), .int .i64 (sayD d p x.data.toList)]) ∧ RefAt w' B v' (writeD d p x.data.toList) ∧ Below w.heap.size w w' := by
  obtain ⟨g, cap, rfl, hBg, hg, hc⟩ := h.slice hn
  have hmx : d.ss.length ≤ cap ∧ cap ≤ maxLen := by
    rcases h.2 with ⟨e, _⟩ | ⟨g', cap', cur, e, _, _, h1, h2, _⟩
    · cases e
    · cases e
      exact ⟨h1, h2⟩
  unfold maxLen at hmx
  have hxl : x.data.toList.length = x.size := rfl
  have hdn := hok.ah
  have hdw := hok.wr
  have H := Lib.hid h
  by_cases h0 : checkD d p = 0
  case neg =>
    have hs : sayD d p x.data.toList = checkD d p := by unfold sayD; rw [if_neg h0]
    have hw : writeD d p x.data.toList = d := by unfold writeD; rw [if_neg (fun e => h0 e.1)]
    rw [hs, hw]
    unfold refV
    unfold checkD at h0 ⊢
    generalize refA d = a
    generalize refT d = t
    generalize d.wr - d.ah = si
    obtain ⟨dn, hdn⟩ : ∃ dn, d.down = dn := ⟨_, rfl⟩
    rw [hdn] at h0 ⊢
    clear hc hs hw hxl h
    cases dn with
    | true =>
      rw [if_pos (show true = true from rfl)]
      clear h0
      go_enter Try.func11, Try.ntmps11
      go_wp2
      exact bodyPost_ret (v := .tuple #[.agg #[.slice (some ⟨g, 0, none⟩) d.ss.length cap, .int .i64 a, .int .i64 t, .int .i64 si, .bool true, .int .i64 d.wr], .int .i64 6]) (by simp [results, Try.results11, go_sem]) rfl ⟨_, rfl, H.out.below (((Below.refl _ w).alloc (Nat.le_refl _) _).alloc (by simp) _), ((Below.refl _ w).alloc (Nat.le_refl _) _).alloc (by simp) _⟩
    | false =>
      by_cases hp0 : p < 0
      · rw [if_neg (show ¬ (false = true) by simp), if_pos (Or.inl hp0)]
        clear h0
        go_enter Try.func11, Try.ntmps11
        go_wp2
        exact bodyPost_ret (v := .tuple #[.agg #[.slice (some ⟨g, 0, none⟩) d.ss.length cap, .int .i64 a, .int .i64 t, .int .i64 si, .bool false, .int .i64 d.wr], .int .i64 1]) (by simp [results, Try.results11, go_sem]) rfl ⟨_, rfl, H.out.below (((Below.refl _ w).alloc (Nat.le_refl _) _).alloc (by simp) _), ((Below.refl _ w).alloc (Nat.le_refl _) _).alloc (by simp) _⟩
      · by_cases hp1 : (d.ss.length : Int) ≤ p
        · rw [if_neg (show ¬ (false = true) by simp), if_pos (Or.inr hp1)]
          clear h0
          go_enter Try.func11, Try.ntmps11
          go_wp2
          exact bodyPost_ret (v := .tuple #[.agg #[.slice (some ⟨g, 0, none⟩) d.ss.length cap, .int .i64 a, .int .i64 t, .int .i64 si, .bool false, .int .i64 d.wr], .int .i64 1]) (by simp [results, Try.results11, go_sem]) rfl ⟨_, rfl, H.out.below (((Below.refl _ w).alloc (Nat.le_refl _) _).alloc (by simp) _), ((Below.refl _ w).alloc (Nat.le_refl _) _).alloc (by simp) _⟩
        · rw [if_neg (show ¬ (false = true) by simp), if_neg (show ¬ (p < 0 ∨ (d.ss.length : Int) ≤ p) by omega)] at h0
          exact absurd rfl h0
  obtain ⟨hd0, hp0, hp1⟩ := check_zero.1 h0
  obtain ⟨i, rfl⟩ : ∃ i : Nat, p = i := ⟨p.toNat, by omega⟩
  have hi : i < d.ss.length := by omega
  by_cases hlen : x.data.toList.length ≤ 64
  case neg =>
    have hs : sayD d (i : Int) x.data.toList = 3 := by unfold sayD; rw [if_pos h0, if_neg hlen]
    have hw : writeD d (i : Int) x.data.toList = d := by unfold writeD; rw [if_neg (fun e => hlen e.2)]
    have hl2 : 64 < x.size := by omega
    rw [hs, hw]
    unfold refV
    rw [hd0]
    generalize refA d = a
    generalize refT d = t
    generalize d.wr - d.ah = si
    obtain ⟨n, hnn⟩ : ∃ n, d.ss.length = n := ⟨_, rfl⟩
    have H2 := Lib.hid (show RefAt w B (.slice (some ⟨g, 0, none⟩) n cap) d by rw [← hnn]; exact h)
    rw [hnn] at hp1 hmx ⊢
    clear hc hs hw hxl h h0 hlen H
    go_enter Try.func11, Try.ntmps11
    go_wp2
    exact bodyPost_ret (v := .tuple #[.agg #[.slice (some ⟨g, 0, none⟩) n cap, .int .i64 a, .int .i64 t, .int .i64 si, .bool false, .int .i64 d.wr], .int .i64 3]) (by simp [results, Try.results11, go_sem]) rfl ⟨_, rfl, H2.out.below (((Below.refl _ w).alloc (Nat.le_refl _) _).alloc (by simp) _), ((Below.refl _ w).alloc (Nat.le_refl _) _).alloc (by simp) _⟩
  have hl2 : x.size ≤ 64 := by omega
  obtain ⟨i0, hi0, hz0, hz1, hz2⟩ := info_parts infoStr7
  obtain ⟨Y, hY⟩ : ∃ Y, textD (fillD x.data.toList) = Y := ⟨_, rfl⟩
  have HF : Hid (∀ W : World, Calls Try.prog 23 #[.string x] W fun e w' => e = .returned (.string Y) ∧ Below W.heap.size W w') := Lib.hid fun W => by
    have := dfill_any x hl2 W
    rw [hY] at this
    exact this
  have HY := Lib.hid hY
  have Hlen := Lib.hid (And.intro hlen (And.intro h0 hok))
  have hcs : ∀ j u, (d.ss.map fun s => Value.string (textD s))[j]? = some u → w.cell? ⟨g, j, none⟩ = some u := fun j u hj => by
    have hjl : j < d.ss.length := by simpa using (List.getElem?_eq_some_iff.1 hj).1
    rw [hc j hjl, ← hj, List.getElem?_map, List.getElem?_eq_getElem hjl]
    rfl
  obtain ⟨n, hnn⟩ : ∃ n, d.ss.length = n := ⟨_, rfl⟩
  obtain ⟨L, hL⟩ : ∃ L, (d.ss.map fun s => Value.string (textD s)) = L := ⟨_, rfl⟩
  rw [hL] at hcs
  have hLn : L.length = n := by rw [← hL, List.length_map, hnn]
  have hL1 : ∀ u ∈ L, u.oneCell' = true := fun u hu => by
    rw [← hL] at hu
    obtain ⟨s, _, rfl⟩ := List.mem_map.1 hu
    rfl
  have HL := Lib.hid (And.intro hL (And.intro hLn (And.intro hL1 (And.intro hcs hnn))))
  have hsi0 : 0 ≤ d.wr - d.ah := by omega
  have hsi1 : d.wr - d.ah ≤ 1000000 := by omega
  have hwr0 : 0 ≤ d.wr := by omega
  rw [show refV (.slice (some ⟨g, 0, none⟩) d.ss.length cap) d = .agg #[.slice (some ⟨g, 0, none⟩) n cap, .int .i64 (refA d), .int .i64 (refT d), .int .i64 (d.wr - d.ah), .bool false, .int .i64 d.wr] by unfold refV; rw [hnn, hd0]]
  obtain ⟨a, ha⟩ : ∃ a, refA d = a := ⟨_, rfl⟩
  obtain ⟨t, ht⟩ : ∃ t, refT d = t := ⟨_, rfl⟩
  obtain ⟨si, hsi⟩ : ∃ si, d.wr - d.ah = si := ⟨_, rfl⟩
  obtain ⟨wc, hwc⟩ : ∃ wc, d.wr = wc := ⟨_, rfl⟩
  have hhit := ref_hit hok
  rw [ha, hsi, hwc] at hhit
  have Hq := Lib.hid (And.intro ha (And.intro ht (And.intro hsi (And.intro hwc hhit))))
  rw [hnn] at hp1 hmx hn2 hi hn
  rw [ha, ht, hsi, hwc]
  rw [hsi] at hsi0 hsi1
  rw [hwc] at hwr hwr0
  clear h hc hcs hL hLn hL1 hY hlen h0 hok ha ht hsi hwc hhit hdn hdw hd0 hxl
  go_enter Try.func11, Try.ntmps11
  go_upto_region 9 with fail
  have hw2 : Below w.heap.size w ((w.alloc (.cells #[.slice (some ⟨g, 0, none⟩) n cap, .int .i64 a, .int .i64 t, .int .i64 (si + 1), .bool false, .int .i64 (wc + 1)] 33)).alloc (.cells #[.slice none 0 0, .int .i64 0, .int .i64 0, .int .i64 0, .bool false, .int .i64 0] 33)) := ((Below.refl _ w).alloc (Nat.le_refl _) _).alloc (by simp) _
  have hd2 : ((w.alloc (.cells #[.slice (some ⟨g, 0, none⟩) n cap, .int .i64 a, .int .i64 t, .int .i64 (si + 1), .bool false, .int .i64 (wc + 1)] 33)).alloc (.cells #[.slice none 0 0, .int .i64 0, .int .i64 0, .int .i64 0, .bool false, .int .i64 0] 33)).heap[w.heap.size]? = some (.cells #[.slice (some ⟨g, 0, none⟩) n cap, .int .i64 a, .int .i64 t, .int .i64 (si + 1), .bool false, .int .i64 (wc + 1)] 33 (0, 0)) := by
    rw [heap_alloc_old _ _ (by simp)]
    exact heap_alloc_new w _
  have hr2 : ((w.alloc (.cells #[.slice (some ⟨g, 0, none⟩) n cap, .int .i64 a, .int .i64 t, .int .i64 (si + 1), .bool false, .int .i64 (wc + 1)] 33)).alloc (.cells #[.slice none 0 0, .int .i64 0, .int .i64 0, .int .i64 0, .bool false, .int .i64 0] 33)).heap[w.heap.size + 1]? = some (.cells #[.slice none 0 0, .int .i64 0, .int .i64 0, .int .i64 0, .bool false, .int .i64 0] 33 (0, 0)) := by
    have := heap_alloc_new (w.alloc (.cells #[.slice (some ⟨g, 0, none⟩) n cap, .int .i64 a, .int .i64 t, .int .i64 (si + 1), .bool false, .int .i64 (wc + 1)] 33)) (.cells #[.slice none 0 0, .int .i64 0, .int .i64 0, .int .i64 0, .bool false, .int .i64 0] 33)
    simpa using this
  generalize (w.alloc (.cells #[.slice (some ⟨g, 0, none⟩) n cap, .int .i64 a, .int .i64 t, .int .i64 (si + 1), .bool false, .int .i64 (wc + 1)] 33)).alloc (.cells #[.slice none 0 0, .int .i64 0, .int .i64 0, .int .i64 0, .bool false, .int .i64 0] 33) = w2 at hw2 hd2 hr2 ⊢
  obtain ⟨db, hdb⟩ : ∃ db, w.heap.size = db := ⟨_, rfl⟩
  obtain ⟨rb, hrb⟩ : ∃ rb, w.heap.size + 1 = rb := ⟨_, rfl⟩
  rw [hrb] at hr2
  rw [hdb] at hd2 hw2 hg hB
  have hdr : rb = db + 1 := by omega
  clear hrb
  subst hdb
  rw [show w.heap.size + 1 = rb from hdr.symm]
  obtain ⟨db, hdb⟩ : ∃ db, w.heap.size = db := ⟨_, rfl⟩
  have hbz := hw2.size
  have hdl : w.heap.size < w2.heap.size := (Array.getElem?_eq_some_iff.1 hd2).1
  have hrl : rb < w2.heap.size := (Array.getElem?_eq_some_iff.1 hr2).1
  rw [hdb] at hd2 hw2 hg hB hdr hbz hdl ⊢
  obtain ⟨z0, z1, z2, z3, z4, z5, zf⟩ := cells_six hd2
  have hsrc : Hid (∀ (W : World) j u, Below w2.heap.size w2 W → L[j]? = some u → W.cell? ((⟨g, 0, none⟩ : Addr).add j) = some u) := Lib.hid fun W j u hW hj => by
    rw [Addr.add_lit, Nat.zero_add, hW.cell (p := ⟨g, j, none⟩) (by show g < _; omega), hw2.cell (p := ⟨g, j, none⟩) hg]
    exact HL.out.2.2.2.1 j u hj
  have Hd2 := Lib.hid hd2
  have Hr2 := Lib.hid hr2
  clear hd2 hr2 z1 z2 z3 z4 z5 zf
  go_upto_region 10 with (at_builtin; refine wpList_append_own _ rfl _ _ 29 rfl w2.heap.size 9 i0 (.string ⟨#[]⟩) 1 16 Try.underlying29 hi0 hz0 hz1 hz2 rfl (by decide) _ _ _ rfl (World.ownsRow_made w2 #[] 0 (Nat.le_refl _) (Nat.zero_le _) rfl) ⟨g, 0, none⟩ n cap L rfl (by rw [HL.out.2.1, Nat.mul_one]) (fun j u hj => hsrc.out _ j u ((Below.refl _ w2).alloc (Nat.le_refl _) _) hj) HL.out.2.2.1 (by unfold maxLen; omega) (by omega) (by simp) ?_; intro v' w3 hown hgrow hnil; rw [Nat.zero_add, List.nil_append] at hown; obtain ⟨g1, cap1, rfl, hg1, hg1l, hc1, hc1m⟩ := own_slice hown hn; have hb3 : Below w2.heap.size w2 w3 := ((Below.refl _ w2).alloc (Nat.le_refl _) _).grown hgrow (by simp) (fun k hk => by have hk2 : some w2.heap.size = some k := hk; simp at hk2; omega); obtain ⟨y0, y1, y2, y3, y4, y5, yf⟩ := cells_six ((hb3.block db hdl).trans Hd2.out); have Hown := Lib.hid hown; clear hown hgrow hnil)
  subst hdr
  have hd4 := set_block (j := 0) (x := .slice (some ⟨g1, 0, none⟩) n cap1) ((hb3.block db hdl).trans Hd2.out)
  have hr4 := (Turned.set (S := fun b => b = db) (w := w3) (j := 0) (N := db) (v := .slice (some ⟨g1, 0, none⟩) n cap1) rfl).heap ((hb3.block (db + 1) hrl).trans Hr2.out) (fun e => by omega)
  have hown4 := row_set (db := db) (j := 0) (x := .slice (some ⟨g1, 0, none⟩) n cap1) Hown.out ((hb3.block db hdl).trans Hd2.out) (by decide)
  have hb4 : Below db w (w3.setCell ⟨db, 0, none⟩ (.slice (some ⟨g1, 0, none⟩) n cap1)) := (hw2.trans (hb3.mono hbz)).setCell (p := ⟨db, 0, none⟩) (Nat.le_refl _) _
  have hbz3 := hb3.size
  have hz4 : (w3.setCell ⟨db, 0, none⟩ (.slice (some ⟨g1, 0, none⟩) n cap1)).heap.size = w3.heap.size := by simp [World.setCell]
  replace hd4 : (w3.setCell ⟨db, 0, none⟩ (.slice (some ⟨g1, 0, none⟩) n cap1)).heap[db]? = some (.cells #[.slice (some ⟨g1, 0, none⟩) n cap1, .int .i64 a, .int .i64 t, .int .i64 (si + 1), .bool false, .int .i64 (wc + 1)] 33 (0, 0)) := hd4
  clear y0 y1 y2 y3 y4 y5 yf
  generalize w3.setCell ⟨db, 0, none⟩ (.slice (some ⟨g1, 0, none⟩) n cap1) = w4 at hd4 hr4 hown4 hb4 hz4 ⊢
  rw [← hz4] at hg1l hbz3
  clear hz4 hb3 Hd2 Hr2 Hown hsrc z0 hw2
  have hdl4 : db < w4.heap.size := by omega
  have hrl4 : db + 1 < w4.heap.size := by omega
  obtain ⟨z0, z1, z2, z3, z4, z5, zf⟩ := cells_six hd4
  obtain ⟨old, hold, hold2⟩ : ∃ old : List UInt8, Hid (d.ss[i]? = some old) ∧ w4.cell? ⟨g1, i, none⟩ = some (.string (textD old)) := by
    have hil : i < d.ss.length := by rw [hnn]; exact hi
    refine ⟨d.ss[i], Lib.hid (List.getElem?_eq_getElem hil), ?_⟩
    have := World.ownsRow.cells (g := g1) hown4 rfl i (.string (textD d.ss[i])) (by rw [← HL.out.1, List.getElem?_map, List.getElem?_eq_getElem hil]; rfl)
    rw [Addr.add_lit, Nat.zero_add] at this
    exact this
  have hof : w4.frozen? ⟨g1, i, none⟩ = false := by
    rcases hown4.2 with ⟨e, _⟩ | ⟨g', cap', cur, e, _, hh, _⟩
    · cases e
    · cases e
      exact Lib.frozen_of_heap hh i
  have hgd : g1 ≠ db := by omega
  have hgr : g1 ≠ db + 1 := by omega
  -- behind fill's call: what lies as it lay
  have HK : Hid (∀ W, Below w4.heap.size w4 W → W.heap[db]? = some (.cells #[.slice (some ⟨g1, 0, none⟩) n cap1, .int .i64 a, .int .i64 t, .int .i64 (si + 1), .bool false, .int .i64 (wc + 1)] 33 (0, 0)) ∧ W.heap[db + 1]? = some (.cells #[.slice none 0 0, .int .i64 0, .int .i64 0, .int .i64 0, .bool false, .int .i64 0] 33 (0, 0)) ∧
      W.ownsRow w2.heap.size 9 1 (.slice (some ⟨g1, 0, none⟩) n cap1) n L ∧ W.cell? ⟨g1, i, none⟩ = some (.string (textD old)) ∧ W.frozen? ⟨g1, i, none⟩ = false ∧ Below db w W) := Lib.hid fun W hW =>
    ⟨(hW.block db hdl4).trans hd4, (hW.block (db + 1) hrl4).trans hr4, ownsRow_below4 hown4 hW, (hW.cell (p := ⟨g1, i, none⟩) hg1l).trans hold2, (hW.frozen (p := ⟨g1, i, none⟩) hg1l).trans hof, hb4.trans (hW.mono (by omega))⟩
  have HB4 := Lib.hid (And.intro hd4 (And.intro hr4 (And.intro hown4 hb4)))
  clear hd4 hr4 hown4 hb4
  by_cases hh : 1 ≤ a ∧ a = si + 1
  · obtain ⟨X, hX⟩ : ∃ X, Y.extract 0 (tornN d.ct) ++ (textD old).extract (tornN d.ct) 64 = X := ⟨_, rfl⟩
    have hoks : old.length = 64 := Hlen.out.2.2.ss _ (List.mem_of_getElem? hold.out)
    have hYs : Y.size = 64 := by rw [← HY.out, text_size]; exact fill_len Hlen.out.1
    have hOs : (textD old).size = 64 := by rw [text_size]; exact hoks
    have hhit : d.wr + 1 - d.ah = d.ca := by
      obtain ⟨ha, ht, hsi, hwc, hh2⟩ := Hq.out
      have := hh2.1 hh
      omega
    have htc : t = d.ct := by
      rw [← Hq.out.2.1]
      exact ref_armed Hlen.out.2.2 hhit
    have htl := torn_le d.ct
    have htn : ((tornN d.ct : Nat) : Int) = min (max t 0) 64 := by rw [htc]; unfold tornN; omega
    have Hfin : Hid (∀ W : World, W.ownsRow w2.heap.size 9 1 (.slice (some ⟨g1, 0, none⟩) n cap1) n (L.set i (.string X)) → Below db w W →
        ∃ v', Ending.returned (.tuple #[.agg #[.slice (some ⟨g1, 0, none⟩) n cap1, .int .i64 0, .int .i64 0, .int .i64 (si + 1), .bool true, .int .i64 (wc + 1)], .int .i64 6]) = Ending.returned (.tuple #[refV v' (writeD d (i : Int) x.data.toList), .int .i64 (sayD d (i : Int) x.data.toList)]) ∧ RefAt W B v' (writeD d (i : Int) x.data.toList) ∧ Below db w W) := Lib.hid fun W hW hb => by
      obtain ⟨ha, ht, hsi, hwc, _⟩ := Hq.out
      obtain ⟨hlen, h0, hok⟩ := Hlen.out
      obtain ⟨e1, e2⟩ := write_hit h0 hlen hhit
      rw [e1, e2, Int.toNat_natCast]
      refine ⟨.slice (some ⟨g1, 0, none⟩) n cap1, ?_, ?_, hb⟩
      · unfold refV refA refT
        rw [if_pos (show (0 : Int) < 1 by decide)]
        show Ending.returned (.tuple #[.agg #[_, _, _, .int .i64 (si + 1), _, .int .i64 (wc + 1)], _]) = Ending.returned (.tuple #[.agg #[_, _, _, .int .i64 (d.wr + 1 - d.ah), _, .int .i64 (d.wr + 1)], _])
        rw [hwc, show wc + 1 - d.ah = si + 1 by omega]
      · unfold RefAt
        rw [show (⟨d.ss.set i ((fillD x.data.toList).take (tornN d.ct) ++ (d.ss.getD i []).drop (tornN d.ct)), 0, 0, true, d.wr + 1, d.ah⟩ : Dk).ss = d.ss.set i ((fillD x.data.toList).take (tornN d.ct) ++ (d.ss.getD i []).drop (tornN d.ct)) from rfl, List.length_set, hnn, map_set_text, HL.out.1,
          List.getD_eq_getElem?_getD, hold.out, Option.getD_some, text_torn _ _ _ hoks, HY.out, hX]
        exact row_more hW (by omega)
    obtain ⟨nn, hnn2⟩ : ∃ nn, tornN d.ct = nn := ⟨_, rfl⟩
    obtain ⟨O, hO⟩ : ∃ O, textD old = O := ⟨_, rfl⟩
    rw [hnn2] at htl htn hX
    rw [hO] at hold2 hOs hX HK
    have hadd : ∀ W : World, (Op.stringOp .add (Y.extract 0 nn) (O.extract nn O.size)).run Try.prog W = .ok (.string X) W := fun W => by
      rw [← hX, ← hOs]
      exact run_string_add_sum (a := Y.extract 0 nn) (b := O.extract nn O.size) (h := by rw [ByteArray.size_extract, ByteArray.size_extract]; omega) ..
    have n1 : (0 : Int) ≤ (nn : Int) := by omega
    have n2 : (nn : Int) ≤ (Y.size : Int) := by omega
    have n3 : (nn : Int) ≤ (O.size : Int) := by omega
    obtain ⟨hh1, hh2⟩ := hh
    have Htn := Lib.hid htn
    clear hX hoks hYs hOs hhit htc hnn2 hO HY Hlen Hq htn
    obtain ⟨m1, hm1⟩ : ∃ m1, max t 0 = m1 := ⟨_, rfl⟩
    have Hm1 := Lib.hid hm1
    clear hm1
    go_upto_if 55 with fail
    go_cut [8] from 56 (fun tv wx => tv = .int .i64 m1 ∧ wx = w4)
    case first =>
      clear hadd n1 n2 n3
      go_wp2_with fail
      all_goals
        go_meet
        have hm1 := Hm1.out
        refine ⟨?_, rfl⟩
        congr 1
        omega
    case rest =>
    obtain ⟨rfl, h9⟩ := hcut
    obtain rfl := h9.symm
    clear h9
    go_upto_if 57 with fail
    go_cut [8] from 58 (fun tv wx => tv = .int .i64 (nn : Int) ∧ wx = w4)
    case first =>
      clear hadd n1 n2 n3
      go_wp2_with fail
      all_goals
        go_meet
        have htn := Htn.out
        have hm1 := Hm1.out
        refine ⟨?_, rfl⟩
        congr 1
        omega
    case rest =>
      obtain ⟨rfl, h9⟩ := hcut
      obtain rfl := h9.symm
      clear h9
      go_upto_region 16 with fail
      go_region_law (first
          | (go_simp; go_at_call 23; refine (HF.out _).mono ?_; rintro e w9 ⟨rfl, hb8⟩; have hb9 : Below w4.heap.size w4 w9 := (below_drewN (Below.refl _ w4) 1).trans hb8; obtain ⟨q1, _, _, q4, q5, _⟩ := HK.out w9 hb9; have c9 : w9.cell? ⟨db, 0, none⟩ = some (.slice (some ⟨g1, 0, none⟩) n cap1) := (cells_six q1).1; clear q1 hb8))
      all_goals
        obtain ⟨q1, q2, q3, _, _, q6⟩ := HK.out w9 hb9
        have ht5 : Turned (fun b => b = g1) w9 (w9.setCell ⟨g1, i, none⟩ (.string X)) := Turned.set rfl
        have d5 := ht5.heap q1 (fun e => hgd e.symm)
        have r5 := ht5.heap q2 (fun e => hgr e.symm)
        have o5 := own_set q3 i (.string X)
        have b5 : Below db w (w9.setCell ⟨g1, i, none⟩ (.string X)) := q6.setCell (p := ⟨g1, i, none⟩) (by show db ≤ g1; omega) _
        have z5 : (w9.setCell ⟨g1, i, none⟩ (.string X)).heap.size = w9.heap.size := by simp [World.setCell]
        have hz9 := hb9.size
        generalize w9.setCell ⟨g1, i, none⟩ (.string X) = w5 at d5 r5 o5 b5 z5 ⊢
        obtain ⟨y0, y1, y2, y3, y4, y5, yf⟩ := cells_six d5
        obtain ⟨x0, x1, x2, x3, x4, x5, xf⟩ := cells_six r5
        have d6 := set_block (j := 4) (x := .bool true) (set_block (j := 2) (x := .int .i64 0) (set_block (j := 1) (x := .int .i64 0) d5))
        have t6 : Turned (fun b => b = db) w5 (((w5.setCell ⟨db, 1, none⟩ (.int .i64 0)).setCell ⟨db, 2, none⟩ (.int .i64 0)).setCell ⟨db, 4, none⟩ (.bool true)) := ((Turned.set (S := fun b => b = db) (j := 1) (N := db) (v := .int .i64 0) rfl).trans (Turned.set (S := fun b => b = db) (j := 2) (N := db) (v := .int .i64 0) rfl) (fun _ h => .inl h)).trans (Turned.set (S := fun b => b = db) (j := 4) (N := db) (v := .bool true) rfl) (fun _ h => .inl h)
        have r6 := t6.heap r5 (fun e => by omega)
        have o6 := t6.row o5 (fun b hb e3 => by
          have hb2 : some g1 = some b := hb
          simp at hb2
          omega)
        have b6 : Below db w (((w5.setCell ⟨db, 1, none⟩ (.int .i64 0)).setCell ⟨db, 2, none⟩ (.int .i64 0)).setCell ⟨db, 4, none⟩ (.bool true)) := ((b5.setCell (p := ⟨db, 1, none⟩) (Nat.le_refl _) _).setCell (p := ⟨db, 2, none⟩) (Nat.le_refl _) _).setCell (p := ⟨db, 4, none⟩) (Nat.le_refl _) _
        have z6 := t6.size
        have o7 := row_six (v0 := .slice (some ⟨g1, 0, none⟩) n cap1) (v1 := .int .i64 0) (v2 := .int .i64 0) (v3 := .int .i64 (si + 1)) (v4 := .bool true) (v5 := .int .i64 (wc + 1)) o6 r6 (by decide)
        have b7 := below_six (b := db + 1) (v0 := .slice (some ⟨g1, 0, none⟩) n cap1) (v1 := .int .i64 0) (v2 := .int .i64 0) (v3 := .int .i64 (si + 1)) (v4 := .bool true) (v5 := .int .i64 (wc + 1)) b6 (by omega) (by omega)
        have HH := Lib.hid (And.intro o7 b7)
        clear q1 q2 q3 q6 ht5 d5 r5 o5 b5 o6 b6 HK HB4 HF c9 q4 q5 d6 t6 r6 o7 b7 z6 hadd
        go_wp2
        exact bodyPost_ret (v := .tuple #[.agg #[.slice (some ⟨g1, 0, none⟩) n cap1, .int .i64 0, .int .i64 0, .int .i64 (si + 1), .bool true, .int .i64 (wc + 1)], .int .i64 6]) (by simp [results, Try.results11, go_sem, x0, x1, x2, x3, x4, x5]) rfl (by first | exact Hfin.out _ HH.out.1 HH.out.2 | (rw [hdb]; exact Hfin.out _ HH.out.1 HH.out.2))
  · have hm : a < 1 ∨ (1 ≤ a ∧ ¬ a = si + 1) := by omega
    have Hh := Lib.hid hh
    clear hh
    have Hfin : Hid (∀ W : World, W.ownsRow w2.heap.size 9 1 (.slice (some ⟨g1, 0, none⟩) n cap1) n (L.set i (.string Y)) → Below db w W →
        ∃ v', Ending.returned (.tuple #[.agg #[.slice (some ⟨g1, 0, none⟩) n cap1, .int .i64 a, .int .i64 t, .int .i64 (si + 1), .bool false, .int .i64 (wc + 1)], .int .i64 0]) = Ending.returned (.tuple #[refV v' (writeD d (i : Int) x.data.toList), .int .i64 (sayD d (i : Int) x.data.toList)]) ∧ RefAt W B v' (writeD d (i : Int) x.data.toList) ∧ Below db w W) := Lib.hid fun W hW hb => by
      obtain ⟨ha, ht, hsi, hwc, hhit⟩ := Hq.out
      obtain ⟨hlen, h0, hok⟩ := Hlen.out
      have hno : ¬ d.wr + 1 - d.ah = d.ca := fun e => Hh.out (hhit.2 (by rw [← hwc]; exact e))
      obtain ⟨e1, e2⟩ := write_miss h0 hlen hno
      rw [e1, e2, Int.toNat_natCast]
      refine ⟨.slice (some ⟨g1, 0, none⟩) n cap1, ?_, ?_, hb⟩
      · have ea : refA ⟨d.ss.set i (fillD x.data.toList), d.ca, d.ct, d.down, d.wr + 1, d.ah⟩ = a := ha
        have et : refT ⟨d.ss.set i (fillD x.data.toList), d.ca, d.ct, d.down, d.wr + 1, d.ah⟩ = t := ht
        unfold refV
        rw [ea, et, show d.down = false from (check_zero.1 h0).1, hwc, show wc + 1 - d.ah = si + 1 by omega]
      · unfold RefAt
        rw [show (⟨d.ss.set i (fillD x.data.toList), d.ca, d.ct, d.down, d.wr + 1, d.ah⟩ : Dk).ss = d.ss.set i (fillD x.data.toList) from rfl, List.length_set, hnn, map_set_text, HL.out.1, HY.out]
        exact row_more hW (by omega)
    rcases hm with hm | ⟨hm1, hm2⟩
    · go_upto_region 20 with fail
      go_region_law (first
          | (go_simp; go_at_call 23; refine (HF.out _).mono ?_; rintro e w9 ⟨rfl, hb8⟩; have hb9 : Below w4.heap.size w4 w9 := (below_drewN (Below.refl _ w4) 1).trans hb8; obtain ⟨q1, _, _, q4, q5, _⟩ := HK.out w9 hb9; have c9 : w9.cell? ⟨db, 0, none⟩ = some (.slice (some ⟨g1, 0, none⟩) n cap1) := (cells_six q1).1; clear q1 hb8))
      all_goals
        obtain ⟨q1, q2, q3, _, _, q6⟩ := HK.out w9 hb9
        have ht5 : Turned (fun b => b = g1) w9 (w9.setCell ⟨g1, i, none⟩ (.string Y)) := Turned.set rfl
        have d5 := ht5.heap q1 (fun e => hgd e.symm)
        have r5 := ht5.heap q2 (fun e => hgr e.symm)
        have o5 := own_set q3 i (.string Y)
        have b5 : Below db w (w9.setCell ⟨g1, i, none⟩ (.string Y)) := q6.setCell (p := ⟨g1, i, none⟩) (by show db ≤ g1; omega) _
        have z5 : (w9.setCell ⟨g1, i, none⟩ (.string Y)).heap.size = w9.heap.size := by simp [World.setCell]
        have hz9 := hb9.size
        generalize w9.setCell ⟨g1, i, none⟩ (.string Y) = w5 at d5 r5 o5 b5 z5 ⊢
        obtain ⟨y0, y1, y2, y3, y4, y5, _⟩ := cells_six d5
        obtain ⟨x0, x1, x2, x3, x4, x5, xf⟩ := cells_six r5
        have o6 := row_six (v0 := .slice (some ⟨g1, 0, none⟩) n cap1) (v1 := .int .i64 a) (v2 := .int .i64 t) (v3 := .int .i64 (si + 1)) (v4 := .bool false) (v5 := .int .i64 (wc + 1)) o5 r5 (by decide)
        have b6 := below_six (b := db + 1) (v0 := .slice (some ⟨g1, 0, none⟩) n cap1) (v1 := .int .i64 a) (v2 := .int .i64 t) (v3 := .int .i64 (si + 1)) (v4 := .bool false) (v5 := .int .i64 (wc + 1)) b5 (by omega) (by omega)
        have HH := Lib.hid (And.intro o6 b6)
        clear q1 q2 q3 q6 ht5 d5 r5 o5 b5 o6 b6 HK HB4 HF c9 q4 q5
        go_wp2
        exact bodyPost_ret (v := .tuple #[.agg #[.slice (some ⟨g1, 0, none⟩) n cap1, .int .i64 a, .int .i64 t, .int .i64 (si + 1), .bool false, .int .i64 (wc + 1)], .int .i64 0]) (by simp [results, Try.results11, go_sem, x0, x1, x2, x3, x4, x5]) rfl (by first | exact Hfin.out _ HH.out.1 HH.out.2 | (rw [hdb]; exact Hfin.out _ HH.out.1 HH.out.2))
    · go_upto_region 20 with fail
      go_region_law (first
          | (go_simp; go_at_call 23; refine (HF.out _).mono ?_; rintro e w9 ⟨rfl, hb8⟩; have hb9 : Below w4.heap.size w4 w9 := (below_drewN (Below.refl _ w4) 1).trans hb8; obtain ⟨q1, _, _, q4, q5, _⟩ := HK.out w9 hb9; have c9 : w9.cell? ⟨db, 0, none⟩ = some (.slice (some ⟨g1, 0, none⟩) n cap1) := (cells_six q1).1; clear q1 hb8))
      all_goals
        obtain ⟨q1, q2, q3, _, _, q6⟩ := HK.out w9 hb9
        have ht5 : Turned (fun b => b = g1) w9 (w9.setCell ⟨g1, i, none⟩ (.string Y)) := Turned.set rfl
        have d5 := ht5.heap q1 (fun e => hgd e.symm)
        have r5 := ht5.heap q2 (fun e => hgr e.symm)
        have o5 := own_set q3 i (.string Y)
        have b5 : Below db w (w9.setCell ⟨g1, i, none⟩ (.string Y)) := q6.setCell (p := ⟨g1, i, none⟩) (by show db ≤ g1; omega) _
        have z5 : (w9.setCell ⟨g1, i, none⟩ (.string Y)).heap.size = w9.heap.size := by simp [World.setCell]
        have hz9 := hb9.size
        generalize w9.setCell ⟨g1, i, none⟩ (.string Y) = w5 at d5 r5 o5 b5 z5 ⊢
        obtain ⟨y0, y1, y2, y3, y4, y5, _⟩ := cells_six d5
        obtain ⟨x0, x1, x2, x3, x4, x5, xf⟩ := cells_six r5
        have o6 := row_six (v0 := .slice (some ⟨g1, 0, none⟩) n cap1) (v1 := .int .i64 a) (v2 := .int .i64 t) (v3 := .int .i64 (si + 1)) (v4 := .bool false) (v5 := .int .i64 (wc + 1)) o5 r5 (by decide)
        have b6 := below_six (b := db + 1) (v0 := .slice (some ⟨g1, 0, none⟩) n cap1) (v1 := .int .i64 a) (v2 := .int .i64 t) (v3 := .int .i64 (si + 1)) (v4 := .bool false) (v5 := .int .i64 (wc + 1)) b5 (by omega) (by omega)
        have HH := Lib.hid (And.intro o6 b6)
        clear q1 q2 q3 q6 ht5 d5 r5 o5 b5 o6 b6 HK HB4 HF c9 q4 q5
        go_wp2
        exact bodyPost_ret (v := .tuple #[.agg #[.slice (some ⟨g1, 0, none⟩) n cap1, .int .i64 a, .int .i64 t, .int .i64 (si + 1), .bool false, .int .i64 (wc + 1)], .int .i64 0]) (by simp [results, Try.results11, go_sem, x0, x1, x2, x3, x4, x5]) rfl (by first | exact Hfin.out _ HH.out.1 HH.out.2 | (rw [hdb]; exact Hfin.out _ HH.out.1 HH.out.2))
end Go.Proofs.Ytjmphdpeaahmfaa
