/-
  A row of bytes of the call's own that is written to, byte by byte.
-/
import Derived.Test.YtafpifpgfpkckaaDoorConv
import Derived.Test.YtafpifpgfpkckaaDoorGlue
import Derived.ArgAppend
import Derived.Laws.IdiomStrings
namespace Go.Proofs.YtafpifpgfpkckaaDoor
open Go.RowKit

/-- Bytes that lie in a block of the call's own, whatever is marked behind its end. -/
def UpRow (w : World) (g cap : Nat) (fz : Nat × Nat) (l : List UInt8) : Prop :=
  ∃ cur : Array Value, w.heap[g]? = some (.cells cur 5 fz) ∧ (fz = (0, 0) ∨ cur.size ≤ fz.1) ∧ cur.size = cap ∧ l.length ≤ cap ∧ cur.toList.take l.length = Lib.byteCells l
theorem uprow_cell {w : World} {g j : Nat} {cur : Array Value} {t : TypeId} {fz : Nat × Nat} (h : w.heap[g]? = some (.cells cur t fz)) : w.cell? ⟨g, j, none⟩ = cur[j]? := by simp [World.cell?, h]
theorem UpRow.at {w : World} {g cap : Nat} {fz : Nat × Nat} {l : List UInt8} (h : UpRow w g cap fz l) (i : Nat) (hi : i < l.length) : w.cell? ⟨g, i, none⟩ = some (.int .u8 (l[i].toNat : Int)) ∧ w.frozen? ⟨g, i, none⟩ = false := by
  obtain ⟨cur, h1, h2, h3, h4, h5⟩ := h
  constructor
  · rw [uprow_cell h1]
    have e : cur[i]? = (cur.toList.take l.length)[i]? := by rw [List.getElem?_take, if_pos hi, Array.getElem?_toList]
    rw [e, h5]
    unfold Lib.byteCells
    simp [List.getElem?_map, List.getElem?_eq_getElem hi]
  · simp only [World.frozen?, h1]
    rcases h2 with rfl | h2
    · simp
    · simp
      omega
theorem UpRow.below {w w' : World} {g cap : Nat} {fz : Nat × Nat} {l : List UInt8} (h : UpRow w g cap fz l) (hb : Below w.heap.size w w') : UpRow w' g cap fz l := by
  obtain ⟨cur, h1, h2⟩ := h
  exact ⟨cur, (hb.block g (Array.getElem?_eq_some_iff.1 h1).1).trans h1, h2⟩
theorem UpRow.set {w : World} {g cap : Nat} {fz : Nat × Nat} {l : List UInt8} (h : UpRow w g cap fz l) (i : Nat) (c : UInt8) : UpRow (w.setCell ⟨g, i, none⟩ (.int .u8 (c.toNat : Int))) g cap fz (l.set i c) := by
  obtain ⟨cur, h1, h2, h3, h4, h5⟩ := h
  refine ⟨cur.setIfInBounds i (.int .u8 (c.toNat : Int)), ?_, ?_, ?_, ?_, ?_⟩
  · simp only [World.setCell]
    rw [Array.getElem?_modify, if_pos rfl, h1]
    rfl
  · rw [Array.size_setIfInBounds]
    exact h2
  · rw [Array.size_setIfInBounds]
    exact h3
  · rw [List.length_set]
    exact h4
  · rw [List.length_set, Array.toList_setIfInBounds, List.take_set, h5]
    unfold Lib.byteCells
    rw [List.map_set]
set_option maxRecDepth 100000 in
theorem UpRow.conv {w : World} {g cap : Nat} {fz : Nat × Nat} {l : List UInt8} (h : UpRow w g cap fz l) : (convert 45 9 (.slice (some ⟨g, 0, none⟩) l.length cap)).run Tryd.prog w = .ok (.string (textQ l)) w := by
  have := run_convert_bytes_arg (P := Tryd.prog) w 45 5 Tryd.underlying45 Tryd.underlying5 g 0 l.length cap (l.map fun b => (b.toNat : Int)) (by rw [List.length_map]) (fun i hi => by
      rw [Nat.zero_add, (h.at i hi).1]
      simp [List.getD, List.getElem?_map, List.getElem?_eq_getElem hi]) 9 Tryd.underlying9
  rw [this]
  congr 2
  unfold strOfNums textQ
  congr 1
  simp [List.map_map, Function.comp_def]
/-- The bytes of a text, as a row. -/
theorem bytes_up (w : World) (x : ByteArray) (hx : x.size ≤ 1000000) : ∃ g cap fz w', (convert 9 45 (.string x)).run Tryd.prog w = .ok (.slice (some ⟨g, 0, none⟩) x.size cap) w' ∧ w.heap.size ≤ g ∧ x.size ≤ cap ∧ cap ≤ maxLen ∧ UpRow w' g cap fz x.data.toList ∧ Below w.heap.size w w' := by
  have hr := run_bytes_of_string (P := Tryd.prog) w 9 45 5 x Tryd.underlying9 Tryd.underlying45 Tryd.underlying5
  have hge := grownCap_ge w x.size 0 5
  have hmx : grownCap w x.size 0 5 ≤ maxLen := grownCap_le_maxLen w x.size 0 5 (by unfold maxLen; omega)
  have hxs : x.data.size = x.size := rfl
  have hsz : (bytesRow x (grownCap w x.size 0 5)).size = grownCap w x.size 0 5 := by
    unfold bytesRow
    rw [Array.size_append, Array.size_map, Array.size_replicate, hxs]
    omega
  refine ⟨_, _, ((bytesRow x (grownCap w x.size 0 5)).size, (bytesRow x (grownCap w x.size 0 5)).size + 1), _, hr, Nat.le_refl _, hge, hmx, ⟨bytesRow x (grownCap w x.size 0 5), heap_alloc_new w.drew _, .inr (Nat.le_refl _), hsz, hge, ?_⟩, ?_⟩
  · unfold bytesRow Lib.byteCells
    rw [Array.toList_append, Array.toList_map]
    rw [List.take_left' (by rw [List.length_map])]
  · exact (below_drewN (Below.refl _ w) 1).alloc (Nat.le_refl _) _
end Go.Proofs.YtafpifpgfpkckaaDoor
