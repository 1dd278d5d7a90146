/-
  Rows of items that are handed over, and how many there may be.
-/
import Derived.Test.YtgpdplffljidbaaGreatDoorZ41
namespace Go.Proofs.YtgpdplffljidbaaGreatDoor
set_option maxRecDepth 100000
open Go.ChangeShapes Go.WideShapes Go.ChangeAt Go.RowKit Go.Joins Go.Deep

theorem bulk_one {H : Type} (d : DataW H) : 1 ≤ Rows.uptoBulk d := by
  cases d with
  | lit l => cases l <;> simp [Rows.uptoBulk]
  | nil => simp [Rows.uptoBulk]
  | ptr d => simp [Rows.uptoBulk]
  | slice elems spare => simp [Rows.uptoBulk]
  | agg parts => simp [Rows.uptoBulk]
  | iface t d => simp [Rows.uptoBulk]
  | map entries => simp [Rows.uptoBulk]
  | held h => simp [Rows.uptoBulk]
theorem bulk_part {H : Type} {d : DataW H} {l : List (DataW H)} (h : d ∈ l) : Rows.uptoBulk d ≤ Rows.uptoBulkAll l := by
  induction l with
  | nil => cases h
  | cons x r ih =>
    simp only [Rows.uptoBulkAll]
    rcases List.mem_cons.1 h with e | e
    · subst e
      omega
    · have := ih e
      omega
theorem bulk_len {H : Type} (l : List (DataW H)) : l.length ≤ Rows.uptoBulkAll l := by
  induction l with
  | nil => simp [Rows.uptoBulkAll]
  | cons x r ih =>
    have := bulk_one x
    simp only [Rows.uptoBulkAll, List.length_cons]
    omega
theorem bulk_slice {H : Type} (elems spare : List (DataW H)) : elems.length ≤ Rows.uptoBulk (.slice elems spare) := by
  have h1 := bulk_len elems
  simp only [Rows.uptoBulk]
  omega
theorem bulk_elems {H : Type} (elems spare : List (DataW H)) : Rows.uptoBulkAll elems ≤ Rows.uptoBulk (.slice elems spare) := by
  simp only [Rows.uptoBulk]
  omega
section
variable {H : Type} {enc : TypeId × Value → H} {W : World} {base : Nat} {v : Value} {d : DataW H} {p : List MemPlace}
theorem items_trodB {cs : List Value} {n : Nat} {y : DataW H × List MemPlace} (h : DataW.trod enc Tryz.prog W 0 (fun _ => true) true n 32 cs = some y) :
    ∃ v l, cs = [v] ∧ ItemsAt W W.heap.size v l ∧ l.length ≤ Rows.uptoBulk y.1 := by
  rcases open_slice Tryz.underlying32 h with ⟨hcs, _⟩ | ⟨ad, len, cap, m, n, D, Pl, hcs, _, hl, hm, hmm, hx, hi⟩
  · exact ⟨_, [], hcs, ItemsAt.nil _ _, Nat.zero_le _⟩
  · simp only [if_true] at hmm
    have e7 : Tryz.prog.cellsOf 44 = 7 := by kernel_rfl
    rw [e7] at hi
    have hall : ∀ i, i < len → ∃ x : ItemS, SmallI x ∧ ∀ j, j < 7 → W.cell? ((ad.add (i * 7)).add j) = (itemCells x)[j]? := fun i hlt => by
      obtain ⟨cs', hc, ht⟩ := hi i (by omega)
      obtain ⟨x, rfl, hs⟩ := item_cells ht
      obtain ⟨_, _, hat⟩ := World.cells?_some hc
      exact ⟨x, hs, fun j hj => hat j hj⟩
    have hch : ∃ f : Nat → ItemS, ∀ i, i < len → SmallI (f i) ∧ ∀ j, j < 7 → W.cell? ((ad.add (i * 7)).add j) = (itemCells (f i))[j]? := by
      classical
      refine ⟨fun i => if h : i < len then (hall i h).choose else ⟨0, [], [], [], 0, 0, 0⟩, fun i hlt => ?_⟩
      simp only [dif_pos hlt]
      exact (hall i hlt).choose_spec
    obtain ⟨f, hf⟩ := hch
    have hlen : ((List.range len).map f).length = len := by simp
    refine ⟨_, (List.range len).map f, hcs, ⟨some ad, cap, by rw [hlen], by rw [hlen]; exact hl, hm, fun i hi2 => ?_⟩, ?_⟩
    · rw [hlen] at hi2
      have hc0 := (hf 0 (by omega)).2 0 (by omega)
      have hadd : (ad.add (0 * 7)).add 0 = ad := by simp [Addr.add]
      rw [hadd] at hc0
      have hsp := spot_none15 (v := .int .i64 (f 0).id) hc0
      obtain ⟨b, off, sp⟩ := ad
      obtain rfl : sp = none := hsp
      have hblt : b < W.heap.size := lt_size15 (v := .int .i64 (f 0).id) hc0
      have hcj := (hf i hi2).2
      simp only [Addr.add_lit] at hcj
      simp only [List.getElem_map, List.getElem_range]
      exact ⟨b, off, rfl, hblt, hcj⟩
    · rw [hlen, hx]
      have h1 := bulk_slice ((List.range len).map D) ((List.range (m - len)).map fun j => D (len + j))
      rw [List.length_map, List.length_range] at h1
      omega
theorem open_itemssB (hv : Value.okWide Tryz.prog W .any base 64 v) (h : DataW.Trod enc Tryz.prog W 0 (fun _ => true) true 64 v d p) :
    ∃ ls, ItemRows W W.heap.size v ls ∧ ls.length ≤ Rows.uptoBulk d ∧ ∀ l ∈ ls, l.length ≤ Rows.uptoBulk d := by
  obtain ⟨a, l, c, rfl⟩ := okWide_slice Tryz.underlying64 hv
  obtain ⟨fuel, h⟩ := h
  have h2 : DataW.trod enc Tryz.prog W 0 (fun _ => true) true fuel 64 [.slice a l c] = some (d, p) := by simpa [Value.cells] using h
  rcases open_slice Tryz.underlying64 h2 with ⟨hcs, _⟩ | ⟨ad, len, cap, m, n, D, Pl, hcs, _, hl, hm, hmm, hx, hi⟩
  · simp only [List.cons.injEq, and_true] at hcs
    exact ⟨[], ⟨none, 0, hcs, Nat.le_refl _, by simp, fun i hi => by simp at hi⟩, Nat.zero_le _, fun l hl => by cases hl⟩
  · simp only [List.cons.injEq, and_true] at hcs
    simp only [if_true] at hmm
    obtain ⟨hd, _⟩ := Prod.mk.inj hx
    have hb1 := bulk_slice ((List.range len).map D) ((List.range (m - len)).map fun j => D (len + j))
    rw [List.length_map, List.length_range, ← hd] at hb1
    have hb2 : ∀ i, i < len → Rows.uptoBulk (D i) ≤ Rows.uptoBulk d := fun i hi => by
      have h1 := bulk_part (d := D i) (l := (List.range len).map D) (List.mem_map.2 ⟨i, List.mem_range.2 hi, rfl⟩)
      have h2 := bulk_elems ((List.range len).map D) ((List.range (m - len)).map fun j => D (len + j))
      rw [← hd] at h2
      omega
    have e1 : Tryz.prog.cellsOf 32 = 1 := by kernel_rfl
    rw [e1] at hi
    have hall : ∀ i, i < len → ∃ x : Value × List ItemS, (ItemsAt W W.heap.size x.1 x.2 ∧ x.2.length ≤ Rows.uptoBulk d) ∧ W.cell? ((ad.add (i * 1)).add 0) = some x.1 := fun i hlt => by
      obtain ⟨cs', hc, ht⟩ := hi i (by omega)
      obtain ⟨x, l', rfl, hs, hs2⟩ := items_trodB ht
      obtain ⟨_, _, hat⟩ := World.cells?_some hc
      exact ⟨⟨x, l'⟩, ⟨hs, Nat.le_trans hs2 (hb2 i hlt)⟩, hat 0 (by omega)⟩
    have hch : ∃ f : Nat → Value × List ItemS, ∀ i, i < len → (ItemsAt W W.heap.size (f i).1 (f i).2 ∧ (f i).2.length ≤ Rows.uptoBulk d) ∧ W.cell? ((ad.add (i * 1)).add 0) = some (f i).1 := by
      classical
      refine ⟨fun i => if h : i < len then (hall i h).choose else ⟨.bool false, []⟩, fun i hlt => ?_⟩
      simp only [dif_pos hlt]
      exact (hall i hlt).choose_spec
    obtain ⟨f, hf⟩ := hch
    have hlen : ((List.range len).map fun i => (f i).2).length = len := by simp
    refine ⟨(List.range len).map fun i => (f i).2, ⟨some ad, cap, by rw [hlen]; exact hcs, by rw [hlen]; exact hl, hm, fun i hi2 => ?_⟩, by rw [hlen]; omega, ?_⟩
    · rw [hlen] at hi2
      have hc0 := (hf 0 (by omega)).2
      have hadd : (ad.add (0 * 1)).add 0 = ad := by simp [Addr.add]
      rw [hadd] at hc0
      have hsp := spot_none15 hc0
      obtain ⟨b, off, sp⟩ := ad
      obtain rfl : sp = none := hsp
      have hblt : b < W.heap.size := lt_size15 hc0
      have hcj := (hf i hi2).2
      simp only [Addr.add_lit, Nat.mul_one, Nat.add_zero] at hcj
      simp only [List.getElem_map, List.getElem_range]
      exact ⟨b, off, _, rfl, hblt, hcj, (hf i hi2).1.1⟩
    · intro c hc
      obtain ⟨i, hi', rfl⟩ := List.mem_map.1 hc
      exact (hf i (List.mem_range.1 hi')).1.2
end
end Go.Proofs.YtgpdplffljidbaaGreatDoor
