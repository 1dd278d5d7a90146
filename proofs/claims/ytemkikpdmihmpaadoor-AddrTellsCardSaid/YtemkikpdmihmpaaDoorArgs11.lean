/-
  What a statement of layer 11 is handed: addresses.
-/
import Derived.Test.YtemkikpdmihmpaaDoorArgs5
import Derived.Test.YtemkikpdmihmpaaDoorR11P
import Derived.Carry
import Derived.SliceStrings
import Derived.Deep.Slices
import Derived.Deep.Fields
import Derived.ChangeSame
import Derived.SizedLaws
namespace Go.Proofs.YtemkikpdmihmpaaDoor
set_option maxRecDepth 100000
open Go.ChangeShapes Go.WideShapes Go.ChangeAt Go.RowKit Go.Joins Go.Deep

section
variable {H : Type} {enc : TypeId × Value → H} {W : World} {base : Nat} {v : Value} {d : DataW H} {p : List MemPlace}
theorem cell_spotA {w : World} {a : Addr} {v : Value} (h : w.cell? a = some v) : a.spot = none := by
  obtain ⟨b, off, sp⟩ := a
  cases sp with
  | none => rfl
  | some x =>
    simp [World.cell?] at h
    split at h <;> simp at h
theorem addr_cells {cs : List Value} {n : Nat} {y : DataW H × List MemPlace} (h : DataW.trod enc Tryd.prog W 0 (fun _ => true) true n 37 cs = some y) :
    ∃ f : AddrA, cs = [.string (textQ f.1), .string (textQ f.2.1), .string (textQ f.2.2)] ∧ f.1.length ≤ maxLen ∧ f.2.1.length ≤ maxLen ∧ f.2.2.length ≤ maxLen := by
  obtain ⟨xs, m, _, hx, hl, hlen, hf⟩ := DataW.trod_struct Tryd.underlying37 h
  have e2 : Tryd.prog.cellsOf 37 = 3 := by kernel_rfl
  have e1s : Tryd.prog.cellsOf 9 = 1 := by kernel_rfl
  rw [e2] at hl
  match cs, hl, xs, hlen with
  | [a0, a1, a2], _, [y0, y1, y2], _ =>
    have h0 : DataW.trod enc Tryd.prog W 0 (fun _ => true) true m 9 (([a0, a1, a2].drop 0).take (Tryd.prog.cellsOf 9)) = some y0 := hf 0 _ rfl
    rw [e1s] at h0
    have h1 : DataW.trod enc Tryd.prog W 0 (fun _ => true) true m 9 (([a0, a1, a2].drop 1).take (Tryd.prog.cellsOf 9)) = some y1 := hf 1 _ rfl
    rw [e1s] at h1
    have h2 : DataW.trod enc Tryd.prog W 0 (fun _ => true) true m 9 (([a0, a1, a2].drop 2).take (Tryd.prog.cellsOf 9)) = some y2 := hf 2 _ rfl
    rw [e1s] at h2
    obtain ⟨k, q0, _, w0⟩ := DataW.trod_string Tryd.underlying9 (show DataW.trod enc Tryd.prog W 0 (fun _ => true) true m 9 [a0] = some y0 from h0)
    obtain ⟨v, q1, _, w1⟩ := DataW.trod_string Tryd.underlying9 (show DataW.trod enc Tryd.prog W 0 (fun _ => true) true m 9 [a1] = some y1 from h1)
    obtain ⟨u, q2, _, w2⟩ := DataW.trod_string Tryd.underlying9 (show DataW.trod enc Tryd.prog W 0 (fun _ => true) true m 9 [a2] = some y2 from h2)
    simp only [List.cons.injEq, and_true] at q0 q1 q2
    subst q0 q1 q2
    exact ⟨(k.data.toList, v.data.toList, u.data.toList), rfl, w0, w1, w2⟩
theorem addrs_trod {cs : List Value} {n : Nat} {y : DataW H × List MemPlace} (h : DataW.trod enc Tryd.prog W 0 (fun _ => true) true n 22 cs = some y) :
    ∃ v l, cs = [v] ∧ AddrsAt W W.heap.size v l ∧ SmallA maxLen l := by
  rcases open_slice Tryd.underlying22 h with ⟨hcs, _⟩ | ⟨ad, len, cap, m, n, D, Pl, hcs, _, hl, hm, hmm, hx, hi⟩
  · exact ⟨_, [], hcs, ⟨none, 0, rfl, Nat.le_refl _, by simp, fun i hi => by simp at hi⟩, (fun f hf => by cases hf)⟩
  · simp only [if_true] at hmm
    have e2 : Tryd.prog.cellsOf 37 = 3 := by kernel_rfl
    rw [e2] at hi
    have hall : ∀ i, i < len → ∃ x : AddrA, (x.1.length ≤ maxLen ∧ x.2.1.length ≤ maxLen ∧ x.2.2.length ≤ maxLen) ∧ ∀ j, j < 3 → W.cell? ((ad.add (i * 3)).add j) = [Value.string (textQ x.1), .string (textQ x.2.1), .string (textQ x.2.2)][j]? := fun i hlt => by
      obtain ⟨cs', hc, ht⟩ := hi i (by omega)
      obtain ⟨x, rfl, hs⟩ := addr_cells ht
      obtain ⟨_, _, hat⟩ := World.cells?_some hc
      exact ⟨x, hs, fun j hj => hat j hj⟩
    have hch : ∃ f : Nat → AddrA, ∀ i, i < len → ((f i).1.length ≤ maxLen ∧ (f i).2.1.length ≤ maxLen ∧ (f i).2.2.length ≤ maxLen) ∧ ∀ j, j < 3 → W.cell? ((ad.add (i * 3)).add j) = [Value.string (textQ (f i).1), .string (textQ (f i).2.1), .string (textQ (f i).2.2)][j]? := by
      classical
      refine ⟨fun i => if h : i < len then (hall i h).choose else ([], [], []), fun i hlt => ?_⟩
      simp only [dif_pos hlt]
      exact (hall i hlt).choose_spec
    obtain ⟨f, hf⟩ := hch
    have hlen : ((List.range len).map f).length = len := by simp
    refine ⟨_, (List.range len).map f, hcs, ⟨some ad, cap, by rw [hlen], by rw [hlen]; exact hl, hm, fun i hi2 => ?_⟩, ?_⟩
    · rw [hlen] at hi2
      have hc0 := (hf 0 (by omega)).2 0 (by omega)
      have hadd : (ad.add (0 * 3)).add 0 = ad := by simp [Addr.add]
      rw [hadd] at hc0
      have hsp := cell_spotA hc0
      obtain ⟨b, off, sp⟩ := ad
      obtain rfl : sp = none := hsp
      have hblt : b < W.heap.size := by
        rcases Nat.lt_or_ge b W.heap.size with h1 | h1
        · exact h1
        · rw [World.cell?, Array.getElem?_eq_none h1] at hc0
          simp at hc0
      have hcj := (hf i hi2).2
      simp only [Addr.add_lit] at hcj
      simp only [List.getElem_map, List.getElem_range]
      exact ⟨b, off, rfl, hblt, hcj 0 (by omega), hcj 1 (by omega), hcj 2 (by omega)⟩
    · intro c hc
      obtain ⟨i, hi', rfl⟩ := List.mem_map.1 hc
      exact (hf i (List.mem_range.1 hi')).1
theorem open_addrs (hv : Value.okWide Tryd.prog W .any base 22 v) (h : DataW.Trod enc Tryd.prog W 0 (fun _ => true) true 22 v d p) :
    ∃ l, AddrsAt W W.heap.size v l ∧ SmallA maxLen l := by
  obtain ⟨a, l, c, rfl⟩ := okWide_slice Tryd.underlying22 hv
  obtain ⟨fuel, h⟩ := h
  obtain ⟨v', l', e, h1, h2⟩ := addrs_trod (show DataW.trod enc Tryd.prog W 0 (fun _ => true) true fuel 22 [.slice a l c] = some (d, p) by simpa [Value.cells] using h)
  simp only [List.cons.injEq, and_true] at e
  subst e
  exact ⟨l', h1, h2⟩
end
end Go.Proofs.YtemkikpdmihmpaaDoor
