/-
  A list of strings that is handed over, opened (layer 13).
-/
import Derived.Test.YtidlpdiephlkhaaGreatDoorZ19
import Derived.Test.YtidlpdiephlkhaaGreatDoorZ02
import Derived.Carry
import Derived.SliceStrings
namespace Go.Proofs.YtidlpdiephlkhaaGreatDoor
set_option maxRecDepth 100000
open Go.ChangeShapes Go.WideShapes Go.ChangeAt Go.RowKit Go.Joins

section
variable {H : Type} {enc : TypeId × Value → H} {W : World} {base : Nat} {v : Value} {d : DataW H} {p : List MemPlace}

theorem open_list {c0 : Value} {n : Nat} {y : DataW H × List MemPlace} (h : DataW.trod enc Tryz.prog W 0 (fun _ => true) true n 42 [c0] = some y) :
    ∃ A len cap ss, c0 = .slice A len cap ∧ Strs W W.heap.size A len cap ss ∧ ∀ s ∈ ss, s.size ≤ maxLen := by
  rcases open_strings Tryz.underlying42 Tryz.underlying9 (by kernel_rfl) h with ⟨hcs, _⟩ | ⟨a, len, cap, ss, hcs, _, hl, hm, hz, _, hcell, hsz⟩
  · simp only [List.cons.injEq, and_true] at hcs
    exact ⟨none, 0, 0, [], hcs, ⟨rfl, .inl ⟨rfl, rfl, rfl⟩⟩, by simp⟩
  · simp only [List.cons.injEq, and_true] at hcs
    simp only [if_true] at hz
    refine ⟨some a, len, cap, ss.take len, hcs, ⟨by rw [List.length_take]; omega, .inr ⟨a, rfl, ?_⟩⟩, fun s hs => hsz s (List.mem_of_mem_take hs)⟩
    rcases Nat.eq_zero_or_pos len with h0 | h0
    · exact .inl h0
    · have hc0 := hcell 0 (by omega)
      have hadd : a.add 0 = a := by simp [Addr.add]
      rw [hadd] at hc0
      have hsp := cell_spot hc0
      obtain ⟨b, off, sp⟩ := a
      obtain rfl : sp = none := hsp
      have hblt : b < W.heap.size := by
        rcases Nat.lt_or_ge b W.heap.size with h1 | h1
        · exact h1
        · rw [World.cell?, Array.getElem?_eq_none h1] at hc0
          simp at hc0
      refine .inr ⟨b, off, rfl, hblt, fun j hj => ?_⟩
      have hcj := hcell j (by omega)
      have e : (⟨b, off, none⟩ : Addr).add j = ⟨b, off + j, none⟩ := by
        unfold Addr.add
        split <;> simp_all
      rw [e] at hcj
      rw [hcj, getD_take_lt _ _ _ _ hj]

theorem open_list3 (hv : Value.okWide Tryz.prog W .any base 42 v) (h : DataW.Trod enc Tryz.prog W 0 (fun _ => true) true 42 v d p) :
    ∃ A n c ss, v = .slice A n c ∧ Strs W W.heap.size A n c ss ∧ ∀ s ∈ ss, s.size ≤ maxLen := by
  obtain ⟨a, l, c, rfl⟩ := okWide_slice Tryz.underlying42 hv
  obtain ⟨n, h⟩ := h
  obtain ⟨A, len, cap, ss, e, h1, h2⟩ := open_list (c0 := .slice a l c) (by simpa [Value.cells] using h)
  exact ⟨A, len, cap, ss, e, h1, h2⟩
end
end Go.Proofs.YtidlpdiephlkhaaGreatDoor
