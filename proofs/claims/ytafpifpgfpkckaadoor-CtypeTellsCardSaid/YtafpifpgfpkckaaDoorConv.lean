/-
  A row of bytes of the call's own, as a text; rows of the call's own abide what lies above them.
-/
import Derived.Test.YtafpifpgfpkckaaDoorRows
import Derived.WalkKit
import Derived.WalkSpells
import Derived.WalkLawsBesides
import Derived.Laws.BytesArg
import Derived.Laws.AppendOwn
import Derived.Lib.AppendStr
import Derived.Lib.UnsafeStr
namespace Go.Proofs.YtafpifpgfpkckaaDoor
open Go.RowKit

theorem infoB4 : (Tryd.prog.info? 5).map (fun i => (i.zero, i.size, i.bytes)) = some (some (.int .u8 0), 1, 1) := by kernel_rfl
set_option maxRecDepth 100000 in
/-- A row of bytes of the call's own, as a text. -/
theorem conv_own4 {w : World} {base : Nat} {v : Value} {n : Nat} {l : List UInt8} (h : w.ownsRow base 5 1 v n (Lib.byteCells l)) : (convert 45 9 v).run Tryd.prog w = .ok (.string ⟨l.toArray⟩) w := by
  have hl : l.length = n := by
    have := h.1
    rw [Lib.byteCells_length] at this
    omega
  rcases h.2 with ⟨rfl, rfl⟩ | ⟨g, cap, cur, rfl, hb, hg, hnc, hcm, hcs, ht⟩
  · have hn : l = [] := List.eq_nil_of_length_eq_zero hl
    subst hn
    exact run_convert_bytes_nil w 45 5 Tryd.underlying45 Tryd.underlying5 0 0 9 Tryd.underlying9
  · have := run_convert_bytes_arg (P := Tryd.prog) w 45 5 Tryd.underlying45 Tryd.underlying5 g 0 n cap (l.map fun b => (b.toNat : Int)) (by rw [List.length_map, hl]) (fun i hi => by
      have hc := h.cells (g := g) rfl i (.int .u8 ((l.map fun b => (b.toNat : Int)).getD i 0)) (by
        unfold Lib.byteCells
        rw [List.getElem?_map, List.getElem?_eq_getElem (by omega)]
        simp [List.getD, List.getElem?_map, List.getElem?_eq_getElem (show i < l.length by omega)])
      rw [Addr.add_lit] at hc
      exact hc) 9 Tryd.underlying9
    rw [this]
    congr 2
    unfold strOfNums
    congr 1
    simp [List.map_map, Function.comp_def]
theorem ownsRow_below4 {w w' : World} {B e size n : Nat} {v : Value} {xs : List Value} (h : w.ownsRow B e size v n xs) (hb : Below w.heap.size w w') : w'.ownsRow B e size v n xs :=
  ⟨h.1, h.2.imp id fun ⟨g, cap, cur, h1, h2, h3, h4⟩ => ⟨g, cap, cur, h1, h2, (hb.block g (by
    rcases Nat.lt_or_ge g w.heap.size with h | h
    · exact h
    · rw [Array.getElem?_eq_none h] at h3; cases h3)).trans h3, h4⟩⟩
end Go.Proofs.YtafpifpgfpkckaaDoor
