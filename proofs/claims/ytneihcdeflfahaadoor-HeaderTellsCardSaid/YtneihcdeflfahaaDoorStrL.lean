/-
  Slices of strings that come in: one predicate, kept over what a call of ours does to memory. No program but the translation's own facts.
-/
import Derived.Test.YtneihcdeflfahaaDoorRows
import Derived.WalkKit
import Derived.WalkSpells
import Derived.WalkLawsBesides
import Derived.Lib.Hide
import Derived.Laws.AppendOwn
namespace Go.Proofs.YtneihcdeflfahaaDoor
open Go.RowKit

/-- The slice (A, n, c) reads, in w, as the strings ss; its cells lie below block B. -/
def Strs (w : World) (B : Nat) (A : Option Addr) (n c : Nat) (ss : List ByteArray) : Prop :=
  ss.length = n ∧ ((A = none ∧ n = 0 ∧ c = 0) ∨ ∃ ad, A = some ad ∧ (n = 0 ∨ ∃ b off, ad = ⟨b, off, none⟩ ∧ b < B ∧ ∀ j, j < n → w.cell? ⟨b, off + j, none⟩ = some (.string (ss.getD j ByteArray.empty))))

section
variable {w w' : World} {B B' n c : Nat} {A : Option Addr} {ss : List ByteArray}
theorem Strs.len (h : Strs w B A n c ss) : ss.length = n := h.1
theorem Strs.at_ (h : Strs w B A n c ss) {k : Nat} (hk : k < n) : ∃ b off, A = some ⟨b, off, none⟩ ∧ b < B ∧ ∀ j, j < n → w.cell? ⟨b, off + j, none⟩ = some (.string (ss.getD j ByteArray.empty)) := by
  rcases h.2 with ⟨_, h0, _⟩ | ⟨ad, rfl, h0 | ⟨b, off, rfl, hb, hc⟩⟩
  · omega
  · omega
  · exact ⟨b, off, rfl, hb, hc⟩
theorem Strs.keep (h : Strs w B A n c ss) (hk : ∀ p : Addr, p.block < B → w'.cell? p = w.cell? p) : Strs w' B A n c ss := by
  refine ⟨h.1, ?_⟩
  rcases h.2 with h0 | ⟨ad, rfl, h0 | ⟨b, off, rfl, hb, hc⟩⟩
  · exact .inl h0
  · exact .inr ⟨ad, rfl, .inl h0⟩
  · exact .inr ⟨_, rfl, .inr ⟨b, off, rfl, hb, fun j hj => (hk _ hb).trans (hc j hj)⟩⟩
theorem Strs.more (h : Strs w B A n c ss) (hB : B ≤ B') : Strs w B' A n c ss := by
  refine ⟨h.1, ?_⟩
  rcases h.2 with h0 | ⟨ad, rfl, h0 | ⟨b, off, rfl, hb, hc⟩⟩
  · exact .inl h0
  · exact .inr ⟨ad, rfl, .inl h0⟩
  · exact .inr ⟨_, rfl, .inr ⟨b, off, rfl, by omega, hc⟩⟩
theorem Strs.below (h : Strs w B A n c ss) (hb : Below B w w') : Strs w' B A n c ss := h.keep fun _ hp => hb.cell hp
theorem Strs.alloc (h : Strs w B A n c ss) (hB : B ≤ w.heap.size) (o : Obj) : Strs (w.alloc o) B A n c ss := h.below ((Below.refl _ _).alloc hB o)
/-- What the call owns reads as the strings. -/
theorem Strs.of_own {base : Nat} {v : Value} {e : TypeId} (h : w.ownsRow base e 1 v n (ss.map .string)) : ∃ A c, v = .slice A n c ∧ Strs w w.heap.size A n c ss := by
  have hl : ss.length = n := by simpa using h.1
  rcases h.2 with ⟨rfl, rfl⟩ | ⟨g, cap, cur, rfl, hb, hg, hnc, hcm, hcs, ht⟩
  · exact ⟨none, 0, rfl, hl, .inl ⟨rfl, rfl, rfl⟩⟩
  · refine ⟨_, _, rfl, hl, .inr ⟨_, rfl, .inr ⟨g, 0, rfl, ?_, fun j hj => ?_⟩⟩⟩
    · exact (h.lt g rfl).2
    · have hc := h.cells (g := g) rfl j (.string (ss.getD j ByteArray.empty)) (by rw [List.getElem?_map, List.getElem?_eq_getElem (by omega)]; simp [List.getD, List.getElem?_eq_getElem (show j < ss.length by omega)])
      rw [Addr.add_lit] at hc
      simpa using hc
end

end Go.Proofs.YtneihcdeflfahaaDoor
