/-
  Texts of this proof, put together: StE, StF, StG, StH, StI, StJ.
-/
import Derived.Test.YtgpdplffljidbaaGreatDoorZ24
import Derived.Test.YtgpdplffljidbaaGreatDoorZ17
import Derived.Test.YtgpdplffljidbaaGreatDoorZ06
import Derived.Test.YtgpdplffljidbaaGreatDoorZ01
namespace Go.Proofs.YtgpdplffljidbaaGreatDoor
open Go.RowKit Go.Maps

theorem val2_le (a b : UInt8) : val2 a b ≤ 65535 := by
  have := a.toNat_lt
  have := b.toNat_lt
  unfold val2
  omega
theorem head_fits {s r : List UInt8} {c : Ch} (h : headL s = some (c, r)) : c.fits := by
  unfold headL at h
  split at h
  · split at h
    · cases h
    · simp only [Option.some.injEq, Prod.mk.injEq] at h
      rw [← h.1]
      refine ⟨?_, ?_⟩
      · simp only [List.length_take]
        exact Nat.le_trans (Nat.min_le_left _ _) (val2_le _ _)
      · simp only [List.length_take]
        exact Nat.le_trans (Nat.min_le_left _ _) (val2_le _ _)
  · cases h
theorem parse_fits : ∀ (f : Nat) (s : List UInt8) {l : List Ch}, parseL f s = some l → ∀ c ∈ l, c.fits
  | _, [], l, h => by
    rw [show parseL _ ([] : List UInt8) = some [] by simp [parseL]] at h
    cases h
    intro c hc
    cases hc
  | 0, _ :: _, l, h => by cases h
  | f + 1, b :: s, l, h => by
    rw [parseL] at h
    cases hh : headL (b :: s) with
    | none => rw [hh] at h; cases h
    | some cr =>
      obtain ⟨c, r⟩ := cr
      rw [hh] at h
      simp only at h
      obtain ⟨l2, h2, h3⟩ := Option.map_eq_some_iff.1 h
      intro c2 hc2
      rw [← h3] at hc2
      rcases List.mem_cons.1 hc2 with rfl | hc2
      · exact head_fits hh
      · exact parse_fits f r h2 c2 hc2
end Go.Proofs.YtgpdplffljidbaaGreatDoor
namespace Go.Proofs.YtgpdplffljidbaaGreatDoor
open Go.RowKit Go.Maps

set_option maxRecDepth 100000 in
set_option maxHeartbeats 2000000 in
theorem told_any (a k : Nat) (hk : k ≤ 2) (s : List UInt8) (hs : 14 ≤ s.length) (hs2 : s.length ≤ 1000000000) (w : World) (ha : w.cell? ⟨a, 0, none⟩ = some (.string (textQ s))) :
    Calls Tryz.prog 99 #[.int .i64 (k : Int), .pointer (some ⟨a, 0, none⟩)] w fun e w' => e = .returned (.int .u32 (valF 0 ((s.drop (2 + 4 * k)).take 4) : Nat)) ∧ w' = w := by
  obtain ⟨S, hS⟩ : ∃ S, textQ s = S := ⟨_, rfl⟩
  have hsz : S.size = s.length := by rw [← hS]; rfl
  have hnum := num_any (textQ ((s.drop (2 + 4 * k)).take 4)) (by show ((s.drop (2 + 4 * k)).take 4).length ≤ 8; rw [List.length_take]; omega) w
  rw [show (textQ ((s.drop (2 + 4 * k)).take 4)).data.toList = (s.drop (2 + 4 * k)).take 4 from rfl, numB_val _ (by rw [List.length_take]; omega)] at hnum
  have g1 : 2 + 4 * k ≤ S.size := by omega
  have hx : (S.extract (2 + 4 * k) s.length).extract 0 4 = textQ ((s.drop (2 + 4 * k)).take 4) := by
    rw [← hS, extract_text, List.take_of_length_le (by rw [List.length_drop]; omega), extract_text, List.drop_zero]
  rw [← hx] at hnum
  rw [hS] at ha
  have Hx := Lib.hid hx
  clear hS hx
  go_enter Tryz.func99, Tryz.ntmps99
  go_wp2_with (go_at_call 76; refine hnum.mono ?_; rintro e w' ⟨rfl, rfl⟩)
  go_ret
  exact ⟨rfl, rfl⟩
end Go.Proofs.YtgpdplffljidbaaGreatDoor
namespace Go.Proofs.YtgpdplffljidbaaGreatDoor
open Go.RowKit

def setsD (ss : List (List UInt8)) (l : List (Nat × List UInt8)) : List (List UInt8) := l.foldl (fun ss x => ss.set x.1 (fillD x.2)) ss
theorem sets_len : ∀ (l : List (Nat × List UInt8)) (ss : List (List UInt8)), (setsD ss l).length = ss.length
  | [], _ => rfl
  | x :: l, ss => by
    show (setsD (ss.set x.1 (fillD x.2)) l).length = _
    rw [sets_len l, List.length_set]
theorem check_ok {d : Dk} {p : Nat} (hd : d.down = false) (hp : p < d.ss.length) : checkD d (p : Int) = 0 := by
  unfold checkD
  rw [hd, if_neg (by decide), if_neg (by omega)]
theorem run_free : ∀ (l : List (Nat × List UInt8)) (d : Dk), d.down = false → (∀ x ∈ l, x.1 < d.ss.length ∧ x.2.length ≤ 64) → (∀ j, j < l.length → d.wr + 1 + (j : Int) - d.ah ≠ d.ca) →
    runD d l = (⟨setsD d.ss l, d.ca, d.ct, false, d.wr + l.length, d.ah⟩, 0)
  | [], d, hd, _, _ => by
    obtain ⟨ss, ca, ct, down, wr, ah⟩ := d
    simp only at hd
    subst hd
    simp [runD, setsD]
  | x :: l, d, hd, hl, hc => by
    obtain ⟨h1, h2⟩ := hl x (List.mem_cons_self ..)
    obtain ⟨e1, e2⟩ := write_miss (check_ok hd h1) h2 (by have := hc 0 (by simp); simpa using this)
    rw [Int.toNat_natCast] at e2
    rw [runD, if_pos e1, e2, run_free l ⟨d.ss.set x.1 (fillD x.2), d.ca, d.ct, d.down, d.wr + 1, d.ah⟩ hd (fun y hy => by show y.1 < (d.ss.set x.1 (fillD x.2)).length ∧ _; rw [List.length_set]; exact hl y (List.mem_cons_of_mem _ hy)) (fun j hj => by
      have := hc (j + 1) (by simp; omega)
      show d.wr + 1 + 1 + (j : Int) - d.ah ≠ d.ca
      push_cast at this
      omega)]
    have hw : d.wr + 1 + (l.length : Int) = d.wr + ((x :: l).length : Nat) := by rw [List.length_cons]; push_cast; omega
    show ((⟨setsD (d.ss.set x.1 (fillD x.2)) l, d.ca, d.ct, false, d.wr + 1 + (l.length : Int), d.ah⟩ : Dk), (0 : Int)) = _
    rw [hw]
    rfl
theorem fill_pad (x : List UInt8) : fillD x = padR 64 x := rfl
theorem sets_rev (L : List (List UInt8)) (base : Nat) (ss : List (List UInt8)) (h : base + L.length ≤ ss.length) : ∀ j, j ≤ L.length →
    setsD (wroteR ss (base + j) ((L.drop j).map (padR 64))) ((revJ L j).map fun x => (base + x.1, x.2)) = wroteR ss base (L.map (padR 64))
  | 0, _ => by simp [revJ, setsD]
  | j + 1, hj => by
    have hx : (L.drop j).map (padR 64) = padR 64 (L.getD j []) :: (L.drop (j + 1)).map (padR 64) := by
      rw [List.drop_eq_getElem_cons (by omega), List.map_cons, List.getD_eq_getElem?_getD, List.getElem?_eq_getElem (by omega)]
      rfl
    rw [revJ, List.map_cons]
    show setsD ((wroteR ss (base + (j + 1)) ((L.drop (j + 1)).map (padR 64))).set (base + j) (fillD (L.getD j []))) _ = _
    rw [fill_pad, show base + (j + 1) = base + j + 1 by omega, wroteR_set (by omega), ← hx]
    exact sets_rev L base ss h j (by omega)
theorem lay_sets (st : StP) (p : PlP) (t : List UInt8) (ss : List (List UInt8)) (h : st.fr + p.half * st.sz + p.at_ + secN t.length ≤ ss.length) :
    setsD ss (layL st p t) = wroteR (if p.at_ + secN t.length < st.sz then ss.set (st.fr + p.half * st.sz + (p.at_ + secN t.length)) emptyR else ss) (st.fr + p.half * st.sz + p.at_) (laidR sumH p.gen p.num t) := by
  have hn : (layP p t).length = secN t.length := by
    unfold layP
    rw [List.length_map, List.length_range]
  obtain ⟨s1, hs1⟩ : ∃ s1, (if p.at_ + secN t.length < st.sz then ss.set (st.fr + p.half * st.sz + (p.at_ + secN t.length)) emptyR else ss) = s1 := ⟨_, rfl⟩
  have hl1 : s1.length = ss.length := by
    rw [← hs1]
    split
    · rw [List.length_set]
    · rfl
  have h0 : setsD ss (layE st p t.length) = s1 := by
    rw [← hs1]
    unfold layE
    split
    · rfl
    · rfl
  have happ : setsD ss (layL st p t) = setsD (setsD ss (layE st p t.length)) ((revJ (layP p t) (layP p t).length).map (layA st p)) := by
    unfold layL setsD
    rw [List.foldl_append]
  have hA : layA st p = fun x => (st.fr + p.half * st.sz + p.at_ + x.1, x.2) := by
    funext x
    unfold layA
    rw [Nat.add_assoc (st.fr + p.half * st.sz)]
  have hr := sets_rev (layP p t) (st.fr + p.half * st.sz + p.at_) s1 (by rw [hn, hl1]; exact h) (layP p t).length (Nat.le_refl _)
  rw [List.drop_length, List.map_nil, wroteR_nil] at hr
  rw [happ, h0, hA, hr, hs1, laid_pieces]
  unfold layP
  rw [List.map_map]
  rfl
end Go.Proofs.YtgpdplffljidbaaGreatDoor
namespace Go.Proofs.YtgpdplffljidbaaGreatDoor
open Go.RowKit

def halfD (ss : List (List UInt8)) (k sz : Nat) : List (List UInt8) := (ss.drop k).take sz
theorem half_len {ss : List (List UInt8)} {k sz : Nat} (h : k + sz ≤ ss.length) : (halfD ss k sz).length = sz := by
  unfold halfD
  rw [List.length_take, List.length_drop]
  omega
theorem half_get {ss : List (List UInt8)} {k sz i : Nat} : (halfD ss k sz)[i]? = if i < sz then ss[k + i]? else none := by
  unfold halfD
  rw [List.getElem?_take]
  split
  · rw [List.getElem?_drop]
  · rfl
theorem wroteR_get {ss : List (List UInt8)} {k : Nat} {l : List (List UInt8)} (h : k + l.length ≤ ss.length) (i : Nat) : (wroteR ss k l)[i]? = if k ≤ i ∧ i < k + l.length then l[i - k]? else ss[i]? := by
  unfold wroteR
  have ht : (ss.take k).length = k := by rw [List.length_take]; omega
  by_cases h1 : i < k
  · rw [List.getElem?_append_left (by omega), List.getElem?_take, if_pos h1, if_neg (by omega)]
  · rw [List.getElem?_append_right (by omega), ht]
    by_cases h2 : i < k + l.length
    · rw [List.getElem?_append_left (by omega), if_pos ⟨by omega, h2⟩]
    · rw [List.getElem?_append_right (by omega), List.getElem?_drop, if_neg (by omega)]
      congr 1
      omega
theorem half_wrote {ss : List (List UInt8)} {k sz at_ : Nat} {l : List (List UInt8)} (h : k + sz ≤ ss.length) (hl : at_ + l.length ≤ sz) : halfD (wroteR ss (k + at_) l) k sz = wroteR (halfD ss k sz) at_ l := by
  refine List.ext_getElem? fun i => ?_
  rw [half_get, wroteR_get (by omega), wroteR_get (by rw [half_len h]; exact hl), half_get]
  by_cases h1 : i < sz
  · rw [if_pos h1, if_pos h1]
    by_cases h2 : at_ ≤ i ∧ i < at_ + l.length
    · rw [if_pos (by omega), if_pos h2]
      congr 1
      omega
    · rw [if_neg (by omega), if_neg h2]
  · rw [if_neg h1, if_neg (by omega), if_neg h1]
theorem half_apart {ss : List (List UInt8)} {k k2 sz at_ : Nat} {l : List (List UInt8)} (h : k + sz ≤ ss.length) (hl : at_ + l.length ≤ sz) (hk : k2 + sz ≤ k ∨ k + sz ≤ k2) : halfD (wroteR ss (k + at_) l) k2 sz = halfD ss k2 sz := by
  refine List.ext_getElem? fun i => ?_
  rw [half_get, wroteR_get (by omega), half_get]
  by_cases h1 : i < sz
  · rw [if_pos h1, if_pos h1, if_neg (by omega)]
  · rw [if_neg h1, if_neg h1]
theorem half_set {ss : List (List UInt8)} {k sz i : Nat} {x : List UInt8} (h : k + sz ≤ ss.length) (hi : i < sz) : halfD (ss.set (k + i) x) k sz = (halfD ss k sz).set i x := by
  refine List.ext_getElem? fun j => ?_
  rw [half_get, List.getElem?_set, List.getElem?_set, half_get, half_len h]
  by_cases h1 : j < sz
  · rw [if_pos h1, if_pos h1]
    by_cases h2 : i = j
    · rw [if_pos (by omega), if_pos h2, if_pos (by omega), if_pos (by omega)]
    · rw [if_neg (by omega), if_neg h2]
  · rw [if_neg h1, if_neg (by omega), if_neg h1]
theorem half_set_apart {ss : List (List UInt8)} {k k2 sz i : Nat} {x : List UInt8} (hi : i < sz) (hk : k2 + sz ≤ k ∨ k + sz ≤ k2) : halfD (ss.set (k + i) x) k2 sz = halfD ss k2 sz := by
  refine List.ext_getElem? fun j => ?_
  rw [half_get, List.getElem?_set, half_get]
  by_cases h1 : j < sz
  · rw [if_pos h1, if_pos h1, if_neg (by omega)]
  · rw [if_neg h1, if_neg h1]
theorem lay_in_half (st : StP) (p : PlP) (t : List UInt8) (ss : List (List UInt8)) (h : st.fr + p.half * st.sz + st.sz ≤ ss.length) (hf : p.at_ + secN t.length ≤ st.sz) :
    halfD (setsD ss (layL st p t)) (st.fr + p.half * st.sz) st.sz = layR sumH (halfD ss (st.fr + p.half * st.sz) st.sz) p.at_ p.gen p.num t := by
  rw [lay_sets st p t ss (by omega)]
  unfold layR
  have hl := laid_len sumH p.gen p.num t
  rw [half_len h]
  by_cases hn : p.at_ + secN t.length < st.sz
  · rw [if_pos hn, if_pos hn, half_wrote (by rw [List.length_set]; exact h) (by rw [hl]; exact hf), half_set h hn]
  · rw [if_neg hn, if_neg hn, half_wrote h (by rw [hl]; exact hf)]
theorem lay_apart (st : StP) (p : PlP) (t : List UInt8) (ss : List (List UInt8)) (h : st.fr + p.half * st.sz + st.sz ≤ ss.length) (hf : p.at_ + secN t.length ≤ st.sz) (k2 : Nat) (hk : k2 + st.sz ≤ st.fr + p.half * st.sz ∨ st.fr + p.half * st.sz + st.sz ≤ k2) :
    halfD (setsD ss (layL st p t)) k2 st.sz = halfD ss k2 st.sz := by
  rw [lay_sets st p t ss (by omega)]
  have hl := laid_len sumH p.gen p.num t
  by_cases hn : p.at_ + secN t.length < st.sz
  · rw [if_pos hn, half_apart (by rw [List.length_set]; exact h) (by rw [hl]; exact hf) hk, half_set_apart hn hk]
  · rw [if_neg hn, half_apart h (by rw [hl]; exact hf) hk]
end Go.Proofs.YtgpdplffljidbaaGreatDoor
namespace Go.Proofs.YtgpdplffljidbaaGreatDoor
open Go.RowKit Go.Maps

theorem bytes_append (a b : List UInt8) : Lib.byteCells (a ++ b) = Lib.byteCells a ++ Lib.byteCells b := by simp [Lib.byteCells]
theorem flat_take (h : List (List UInt8)) (k : Nat) (hk : k < h.length) : (h.take (k + 1)).flatten = (h.take k).flatten ++ h.getD k [] := by
  rw [List.take_add_one, List.getElem?_eq_getElem hk, List.flatten_append, List.getD_eq_getElem?_getD, List.getElem?_eq_getElem hk]
  simp
theorem flat_size {h : List (List UInt8)} (hs : ∀ s ∈ h, s.length = 64) : h.flatten.length = 64 * h.length := by
  induction h with
  | nil => rfl
  | cons a l ih =>
    rw [List.flatten_cons, List.length_append, ih (fun s hs' => hs s (List.mem_cons_of_mem _ hs')), hs a (List.mem_cons_self ..), List.length_cons]
    omega
theorem half_mem {ss : List (List UInt8)} {k sz : Nat} {s : List UInt8} (h : s ∈ halfD ss k sz) : s ∈ ss := List.mem_of_mem_drop (List.mem_of_mem_take h)

set_option maxRecDepth 100000 in
set_option maxHeartbeats 4000000 in
theorem wread_any (B N Nd g m : Nat) (cs : Array Value) (st : StP) (d : Dk) (w : World) (h : Held9 w N cs 110) (hc : CellsOk cs Nd m st) (hd : DiskAt w B Nd g d)
    (half : Nat) (hf : st.fr ≤ 100000) (hz : st.sz ≤ 10000) (hz1 : 1 ≤ st.sz) (hh : half ≤ 1) (hfit : st.fr + half * st.sz + st.sz ≤ d.ss.length) :
    Calls Tryz.prog 72 #[.pointer (some ⟨N, 0, none⟩), .int .i64 (half : Int)] w fun e w' =>
      e = .returned (if d.down = true then .tuple #[.string ⟨#[]⟩, .int .i64 6] else .tuple #[.string (textQ (halfD d.ss (st.fr + half * st.sz) st.sz).flatten), .int .i64 0]) ∧ Below w.heap.size w w' := by
  obtain ⟨fr, sz, pl, lost⟩ := st
  simp only at hf hz hz1 hfit ⊢
  have hmul : half * sz ≤ 10000 := by
    rcases Nat.le_one_iff_eq_zero_or_eq_one.1 hh with rfl | rfl <;> omega
  obtain ⟨q, hq⟩ : ∃ q, half * sz = q := ⟨_, rfl⟩
  have hqi : (half : Int) * (sz : Int) = (q : Int) := by rw [← hq]; push_cast; rfl
  rw [hq] at hmul hfit ⊢
  have hNl := h.lt
  have hlen := half_len (ss := d.ss) hfit
  have h64 : ∀ s ∈ halfD d.ss (fr + q) sz, s.length = 64 := fun s hs => hd.ok.ss s (half_mem hs)
  have hget : ∀ k, k < sz → d.ss.getD (fr + q + k) [] = (halfD d.ss (fr + q) sz).getD k [] := fun k hk => by
    rw [List.getD_eq_getElem?_getD, List.getD_eq_getElem?_getD, half_get, if_pos hk]
  have hK : ∀ W, Below w.heap.size w W → W.cell? ⟨N, 0, none⟩ = some (.pointer (some ⟨Nd, 0, none⟩)) ∧ W.cell? ⟨N, 1, none⟩ = some (.int .i64 (fr : Int)) ∧ W.cell? ⟨N, 2, none⟩ = some (.int .i64 (sz : Int)) := fun W hW => by
    have h' := h.below hW hNl
    refine ⟨?_, ?_, ?_⟩
    · rw [h'.cell 0]; exact hc.c0
    · rw [h'.cell 1]; exact hc.c1
    · rw [h'.cell 2]; exact hc.c2
  have hR : ∀ W, Below w.heap.size w W → ∀ k, k < sz → Calls Tryz.prog 98 #[.pointer (some ⟨Nd, 0, none⟩), .int .i64 ((fr : Int) + (q : Int) + (k : Int))] W fun e w' => e = .returned (.tuple #[.string (if d.down = true then ⟨#[]⟩ else textQ ((halfD d.ss (fr + q) sz).getD k [])), .int .i64 (if d.down = true then 6 else 0)]) ∧ w' = W := fun W hW k hk => by
    have hr := sread_any B Nd g d W (hd.below hW) ((fr : Int) + (q : Int) + (k : Int))
    have e : checkD d ((fr : Int) + (q : Int) + (k : Int)) = if d.down = true then 6 else 0 := by
      unfold checkD
      by_cases hdn : d.down = true
      · rw [if_pos hdn, if_pos hdn]
      · rw [if_neg hdn, if_neg hdn, if_neg (by omega)]
    rw [e] at hr
    refine hr.mono fun e' w' ⟨he, hw⟩ => ⟨?_, hw⟩
    rw [he]
    by_cases hdn : d.down = true
    · simp only [hdn, if_true]
      rfl
    · simp only [hdn]
      rw [show ((fr : Int) + (q : Int) + (k : Int)).toNat = fr + q + k by omega, hget k hk]
      rfl
  have hflat : ∀ k, k < sz → ((halfD d.ss (fr + q) sz).take (k + 1)).flatten = ((halfD d.ss (fr + q) sz).take k).flatten ++ (halfD d.ss (fr + q) sz).getD k [] := fun k hk => flat_take _ k (by rw [hlen]; exact hk)
  have hall : (halfD d.ss (fr + q) sz).take sz = halfD d.ss (fr + q) sz := List.take_of_length_le (by rw [hlen]; exact Nat.le_refl _)
  have hlt : ∀ k, k ≤ sz → ((halfD d.ss (fr + q) sz).take k).flatten.length ≤ 640000 := fun k hk => by
    rw [flat_size fun s hs => h64 s (List.mem_of_mem_take hs), List.length_take]
    omega
  have hl1 : ∀ k, k < sz → ((halfD d.ss (fr + q) sz).getD k []).length = 64 := fun k hk => by
    rw [List.getD_eq_getElem?_getD, List.getElem?_eq_getElem (by rw [hlen]; exact hk)]
    exact h64 _ (List.getElem_mem _)
  obtain ⟨dn, hdn⟩ : ∃ dn, d.down = dn := ⟨_, rfl⟩
  rw [hdn] at hR ⊢
  generalize halfD d.ss (fr + q) sz = hs at *
  have HK := Lib.hid hK
  have HR := Lib.hid hR
  have HF := Lib.hid (And.intro hflat (And.intro hall (And.intro hlt hl1)))
  have hgrow := fun W (h1 : W = w.alloc (.cells #[.pointer none, .slice none 0 0] 167)) => Tryz.Builder_Grow_fresh w.heap.size w.heap.size (sz * 64) W (Nat.le_refl _) (h1 ▸ heap_alloc_new w _) (h1 ▸ by simp) (by omega)
  have hgr := hgrow _ rfl
  rw [show ((sz * 64 : Nat) : Int) = (sz : Int) * 64 by push_cast; rfl] at hgr
  obtain ⟨c0, c1, c2⟩ := hK _ ((Below.refl _ w).alloc (Nat.le_refl _) (.cells #[.pointer none, .slice none 0 0] 167))
  have hb0 := (Below.refl w.heap.size w).alloc (Nat.le_refl _) (.cells #[.pointer none, .slice none 0 0] 167)
  clear hK hR hflat hall hlt hl1 hgrow h hc hd hget h64 hlen hfit hdn
  go_enter Tryz.func72, Tryz.ntmps72
  go_wp2_with fail
  refine hgr.mono ?_
  rintro e w1 ⟨rfl, hbd, hbw⟩
  have hb1 := hb0.trans hbw
  obtain ⟨c0, c1, c2⟩ := HK.out _ hb1
  clear hgr hb0 hbw
  go_wp2_with fail
  go_loopw [20] (fun iv wr => ∃ k : Nat, k ≤ sz ∧ iv = .int .i64 k ∧ (dn = true → k = 0) ∧ Lib.BuilderAt 167 5 w.heap.size w.heap.size (.pointer (some ⟨w.heap.size, 0, none⟩)) (Lib.byteCells (hs.take k).flatten) wr ∧ Below w.heap.size w wr) (fun iv _ => sz - (intOf iv).toNat)
  case atStart => exact ⟨0, by omega, rfl, fun _ => rfl, by simpa [Lib.byteCells] using hbd, hb1⟩
  case round =>
    clear hbd hb1 c0 c1 c2
    obtain ⟨k, hk, rfl, hk0, hbd, hb⟩ := hrel
    obtain ⟨c0, c1, c2⟩ := HK.out _ hb
    have hbz := hb.size
    by_cases hlt : k < sz
    · have hr := fun q9 => HR.out (wr.drewN q9) (below_drewN hb q9) k hlt
      obtain ⟨hflat, _, hlen, hl1⟩ := HF.out
      have hl := hlen k hk
      have h1 := hl1 k hlt
      have HX := Lib.hid (hflat k hlt)
      have Hbd := Lib.hid hbd
      have Hb := Lib.hid hb
      clear hflat hlen hl1 hbd hb
      cases dn with
      | true =>
        obtain rfl : k = 0 := hk0 rfl
        simp only [if_true, Int.natCast_zero, Int.add_zero] at hr
        have Hr := Lib.hid hr
        clear hr
        go_wp2_with fail
        have k0 : IntKind.i64.wrap (q : Int) = (q : Int) := IntWalk.i64_in _ (by omega)
        have k1 : IntKind.i64.wrap ((fr : Int) + (q : Int)) = (fr : Int) + (q : Int) := IntWalk.i64_in _ (by omega)
        go_quiet (first | (go_at_call 98; exact Calls.quiet_of_same (Hr.out _)))
        clear k0 k1
        go_wp2_with fail
        go_ret2
        exact ⟨rfl, below_drewN Hb.out nq⟩
      | false =>
        simp only [Bool.false_eq_true, if_false] at hr
        have Hr := Lib.hid hr
        clear hr
        obtain ⟨X, hX⟩ : ∃ X, textQ (hs.getD k []) = X := ⟨_, rfl⟩
        have hXs : X.size = 64 := by rw [← hX]; exact h1
        rw [hX] at Hr
        go_wp2_with fail
        have k0 : IntKind.i64.wrap (q : Int) = (q : Int) := IntWalk.i64_in _ (by omega)
        have k1 : IntKind.i64.wrap ((fr : Int) + (q : Int)) = (fr : Int) + (q : Int) := IntWalk.i64_in _ (by omega)
        have k2 : IntKind.i64.wrap ((fr : Int) + (q : Int) + (k : Int)) = (fr : Int) + (q : Int) + (k : Int) := IntWalk.i64_in _ (by omega)
        go_quiet (first | (go_at_call 98; exact Calls.quiet_of_same (Hr.out _)))
        clear k0 k1 k2
        have hb9 := below_drewN Hb.out nq
        have hbs := bwrite_any w.heap.size w.heap.size (Lib.byteCells (hs.take k).flatten) X (wr.drewN nq) (.inr (show Lib.BuilderAt 167 5 _ _ _ _ (wr.drewN nq) from Hbd.out)) (by rw [Lib.byteCells_length]; omega) hbz
        have Hb9 := Lib.hid hb9
        clear hb9
        go_wp2_with fail
        refine hbs.mono ?_
        rintro e w3 ⟨rfl, hb3, hw3⟩
        have hnx : Lib.byteCells (hs.take k).flatten ++ Lib.strCells X = Lib.byteCells (hs.take (k + 1)).flatten := by
          rw [HX.out, bytes_append, ← hX]
          rfl
        rw [hnx] at hb3
        have Hfin := Lib.hid (And.intro hb3 (Hb9.out.trans hw3))
        clear hb3 hw3 hnx hbs
        go_wp2_with fail
        go_roundw
        case rel => exact ⟨k + 1, by omega, by go_num, (fun e => by cases e), Hfin.out.1, Hfin.out.2⟩
        case measure => simp [intOf]; omega
    · obtain rfl : k = sz := by omega
      obtain rfl : dn = false := by
        cases dn with
        | false => rfl
        | true =>
          have := hk0 rfl
          omega
      rw [HF.out.2.1] at hbd
      have hst := Tryz.Builder_String_any w.heap.size w.heap.size hs.flatten wr (.inr hbd) hbz
      have Hb := Lib.hid hb
      clear hbd hb
      go_wp2_with fail
      refine hst.mono ?_
      rintro e w3 ⟨rfl, hw3⟩
      have Hfin := Lib.hid (Hb.out.trans hw3)
      clear hw3 hst
      go_wp2_with fail
      go_ret2
      exact ⟨rfl, Hfin.out⟩
end Go.Proofs.YtgpdplffljidbaaGreatDoor
namespace Go.Proofs.YtgpdplffljidbaaGreatDoor

def readF (H : List UInt8 → List UInt8) (x : List UInt8) : Option (Nat × Nat × List UInt8) :=
  if x.take 2 ≠ [77, 71] then none
  else if (x.drop 63).take 1 ≠ [77] then none
  else if x.length < valF 0 ((x.drop 10).take 4) then none
  else if x.length < 64 * secN (valF 0 ((x.drop 10).take 4)) then none
  else if H ((x.take 63 ++ (x.drop 64).take (64 * secN (valF 0 ((x.drop 10).take 4)) - 64)).take (14 + valF 0 ((x.drop 10).take 4))) ≠ ((x.take 63 ++ (x.drop 64).take (64 * secN (valF 0 ((x.drop 10).take 4)) - 64)).drop (14 + valF 0 ((x.drop 10).take 4))).take 32 then none
  else some (valF 0 ((x.drop 2).take 4), valF 0 ((x.drop 6).take 4), ((x.take 63 ++ (x.drop 64).take (64 * secN (valF 0 ((x.drop 10).take 4)) - 64)).drop 14).take (valF 0 ((x.drop 10).take 4)))
theorem val4_valF (l : List UInt8) (h : l.length = 4) : val4 l = valF 0 l := by
  match l, h with
  | [a, b, c, d], _ => simp [val4, valF]
theorem flat_drop : ∀ (k : Nat) (ss : List (List UInt8)), (∀ s ∈ ss, s.length = 64) → ss.flatten.drop (64 * k) = (ss.drop k).flatten
  | 0, _, _ => rfl
  | k + 1, [], _ => by simp
  | k + 1, s :: ss, h => by
    have hs := h s (List.mem_cons_self ..)
    rw [List.flatten_cons, List.drop_append, List.drop_of_length_le (by omega), List.nil_append, hs, show 64 * (k + 1) - 64 = 64 * k by omega, flat_drop k ss (fun x hx => h x (List.mem_cons_of_mem _ hx))]
    rfl
theorem flat_take64 : ∀ (k : Nat) (ss : List (List UInt8)), (∀ s ∈ ss, s.length = 64) → ss.flatten.take (64 * k) = (ss.take k).flatten
  | 0, _, _ => by simp
  | k + 1, [], _ => by simp
  | k + 1, s :: ss, h => by
    have hs := h s (List.mem_cons_self ..)
    rw [List.flatten_cons, List.take_append, List.take_of_length_le (by omega), hs, show 64 * (k + 1) - 64 = 64 * k by omega, flat_take64 k ss (fun x hx => h x (List.mem_cons_of_mem _ hx))]
    rfl
theorem readF_flat (H : List UInt8 → List UInt8) (ss : List (List UInt8)) (h : ∀ s ∈ ss, s.length = 64) : readF H ss.flatten = readR H ss := by
  match ss, h with
  | [], _ => rfl
  | s :: ss, h =>
    have hs := h s (List.mem_cons_self ..)
    have hss : ∀ x ∈ ss, x.length = 64 := fun x hx => h x (List.mem_cons_of_mem _ hx)
    have hl := flat_size hss
    have t2 : (s ++ ss.flatten).take 2 = s.take 2 := by rw [List.take_append_of_le_length (by omega)]
    have t63 : (s ++ ss.flatten).take 63 = s.take 63 := by rw [List.take_append_of_le_length (by omega)]
    have fld : ∀ a, a + 4 ≤ 64 → ((s ++ ss.flatten).drop a).take 4 = (s.drop a).take 4 := fun a ha => by
      rw [List.drop_append_of_le_length (by omega), List.take_append_of_le_length (by rw [List.length_drop]; omega)]
    have m63 : ((s ++ ss.flatten).drop 63).take 1 = [s.getD 63 0] := by
      rw [List.drop_append_of_le_length (by omega), List.take_append_of_le_length (by rw [List.length_drop]; omega), List.getD_eq_getElem?_getD, List.getElem?_eq_getElem (by omega)]
      rw [List.drop_eq_getElem_cons (by omega)]
      rfl
    have d64 : (s ++ ss.flatten).drop 64 = ss.flatten := by rw [← hs, List.drop_left]
    have v10 : val4 ((s.drop 10).take 4) = valF 0 ((s.drop 10).take 4) := val4_valF _ (by rw [List.length_take, List.length_drop]; omega)
    have v2 : val4 ((s.drop 2).take 4) = valF 0 ((s.drop 2).take 4) := val4_valF _ (by rw [List.length_take, List.length_drop]; omega)
    have v6 : val4 ((s.drop 6).take 4) = valF 0 ((s.drop 6).take 4) := val4_valF _ (by rw [List.length_take, List.length_drop]; omega)
    unfold readF readR bytesR
    simp only [List.flatten_cons, t2, t63, m63, d64, fld 10 (by omega), fld 2 (by omega), fld 6 (by omega), v10, v2, v6]
    generalize valF 0 ((s.drop 10).take 4) = n
    have hlen : (s ++ ss.flatten).length = 64 * (ss.length + 1) := by rw [List.length_append, hs, hl]; omega
    have hsp := secN_pos n
    rw [hlen]
    rw [show 64 * secN n - 64 = 64 * (secN n - 1) by omega, flat_take64 _ _ hss]
    have hnn : n ≤ 64 * secN n := by unfold secN; omega
    by_cases c1 : s.take 2 = [77, 71]
    · rw [if_neg (fun e => e c1)]
      by_cases c2 : s.getD 63 0 = 77
      · rw [if_neg (fun e => e (by rw [c2]))]
        by_cases c3 : secN n ≤ ss.length + 1
        · rw [if_neg (by omega), if_neg (by omega)]
          by_cases c4 : H ((s.take 63 ++ (ss.take (secN n - 1)).flatten).take (14 + n)) = ((s.take 63 ++ (ss.take (secN n - 1)).flatten).drop (14 + n)).take 32
          · rw [if_neg (fun e => e c4), if_pos ⟨c2, c1, c3, c4.symm⟩]
          · rw [if_pos c4, if_neg (fun e => c4 e.2.2.2.symm)]
        · by_cases c5 : 64 * (ss.length + 1) < n
          · rw [if_pos c5]
            exact (if_neg (fun e => c3 e.2.2.1)).symm
          · rw [if_neg c5, if_pos (by omega)]
            exact (if_neg (fun e => c3 e.2.2.1)).symm
      · rw [if_pos (fun e => c2 (by simpa using e)), if_neg (fun e => c2 e.1)]
    · rw [if_pos c1, if_neg (fun e => c1 e.2.1)]
end Go.Proofs.YtgpdplffljidbaaGreatDoor
