/-
  An array of eight texts: its block; the texts of a disk's sectors in it.
-/
import Derived.Test.YtjmphdpeaahmfaaSecB
namespace Go.Proofs.Ytjmphdpeaahmfaa
open Go.RowKit

/-- Eight texts in the block u; the first i of them are those of the sectors. -/
def EightS (w : World) (u : Nat) (ss : List (List UInt8)) (i : Nat) : Prop :=
  ∃ ts : List ByteArray, ts.length = 8 ∧ w.heap[u]? = some (.cells (ts.map Value.string).toArray 50 (0, 0)) ∧ ∀ j (h : j < ts.length), j < i → ts[j] = textD (ss.getD j [])
section
variable {w w' : World} {u i : Nat} {ss : List (List UInt8)}
theorem EightS.lt (h : EightS w u ss i) : u < w.heap.size := by
  obtain ⟨ts, _, h2, _⟩ := h
  exact (Array.getElem?_eq_some_iff.1 h2).1
theorem EightS.keep {S : Nat → Prop} (h : EightS w u ss i) (t : Turned S w w') (hs : ¬ S u) : EightS w' u ss i := by
  obtain ⟨ts, h1, h2, h3⟩ := h
  exact ⟨ts, h1, t.heap h2 hs, h3⟩
theorem EightS.below (h : EightS w u ss i) (hb : Below w.heap.size w w') : EightS w' u ss i := h.keep (S := fun _ => False) (Turned.of_below hb (Nat.le_refl _)) (fun h => h)
/-- A cell of it, and that it may be written. -/
theorem EightS.cell (h : EightS w u ss i) {j : Nat} (hj : j < 8) : ∃ t, w.cell? ⟨u, j, none⟩ = some (.string t) ∧ w.frozen? ⟨u, j, none⟩ = false ∧ (j < i → t = textD (ss.getD j [])) := by
  obtain ⟨ts, h1, h2, h3⟩ := h
  refine ⟨ts[j], ?_, Lib.frozen_of_heap h2 j, fun h => h3 j (by omega) h⟩
  rw [Lib.cell_of_heap h2]
  simp [h1, hj]
theorem EightS.set (h : EightS w u ss i) {t : ByteArray} (ht : t = textD (ss.getD i [])) : EightS (w.setCell ⟨u, i, none⟩ (.string t)) u ss (i + 1) := by
  obtain ⟨ts, h1, h2, h3⟩ := h
  refine ⟨ts.set i t, by rw [List.length_set]; exact h1, ?_, fun j hj hji => ?_⟩
  · rw [set_block h2]
    congr 2
    apply Array.ext'
    simp [List.map_set]
  · rw [List.getElem_set]
    split
    · rename_i e
      rw [ht, e]
    · exact h3 j (by simpa using hj) (by omega)
theorem eight_new : EightS (w.alloc (.cells #[.string ⟨#[]⟩, .string ⟨#[]⟩, .string ⟨#[]⟩, .string ⟨#[]⟩, .string ⟨#[]⟩, .string ⟨#[]⟩, .string ⟨#[]⟩, .string ⟨#[]⟩] 50)) w.heap.size ss 0 :=
  ⟨List.replicate 8 ⟨#[]⟩, rfl, heap_alloc_new w _, fun j _ h => by omega⟩
/-- One of them is laid anew. -/
theorem EightS.put (h : EightS w u ss 8) (hss : ss.length = 8) (p : Nat) (y : List UInt8) : EightS (w.setCell ⟨u, p, none⟩ (.string (textD y))) u (ss.set p y) 8 := by
  obtain ⟨ts, h1, h2, h3⟩ := h
  refine ⟨ts.set p (textD y), by rw [List.length_set]; exact h1, ?_, fun j hj hji => ?_⟩
  · rw [set_block h2]
    congr 2
    apply Array.ext'
    simp [List.map_set]
  · have hj' : j < ts.length := by simpa using hj
    rw [List.getElem_set, List.getD_eq_getElem?_getD, List.getElem?_eq_getElem (by rw [List.length_set]; omega), Option.getD_some, List.getElem_set]
    split
    · rfl
    · rw [h3 j hj' hji, List.getD_eq_getElem?_getD, List.getElem?_eq_getElem (by omega), Option.getD_some]
end
theorem text_snoc (l : List UInt8) : textD l ++ (⟨#[0]⟩ : ByteArray) = textD (l ++ [0]) := by
  apply ByteArray.ext
  rw [ByteArray.data_append]
  simp [textD]
theorem text_of (x : ByteArray) : textD x.data.toList = x := rfl
/-- A text of some first bytes of one, and the rest of another one. -/
theorem text_torn (y z : List UInt8) (n : Nat) (hz : z.length = 64) : textD (y.take n ++ z.drop n) = (textD y).extract 0 n ++ (textD z).extract n 64 := by
  have e1 : (textD y).extract 0 n = textD (y.take n) := ByteArray.ext (Array.ext' (by rw [Lib.extract_data]; rfl))
  have e2 : (textD z).extract n 64 = textD (z.drop n) := ByteArray.ext (Array.ext' (by
    rw [Lib.extract_data]
    show (z.drop n).take (64 - n) = z.drop n
    exact List.take_of_length_le (by rw [List.length_drop]; omega)))
  rw [e1, e2]
  apply ByteArray.ext
  rw [ByteArray.data_append]
  simp [textD]
end Go.Proofs.Ytjmphdpeaahmfaa
