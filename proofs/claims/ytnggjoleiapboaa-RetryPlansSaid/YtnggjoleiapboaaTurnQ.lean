/-
  What turns and what does not: calls that write to blocks of a few, named; rows that abide them. No program.
-/
import Derived.Test.YtnggjoleiapboaaRows
import Derived.WalkKit
import Derived.Laws.AppendOwn
import Derived.Below
import Derived.Lib.Hide
import Derived.Maps.AppendAt
namespace Go.Proofs.Ytnggjoleiapboaa
open Go.RowKit

/-- Nothing of w has turned in w' but blocks of S. -/
structure Turned (S : Nat → Prop) (w w' : World) : Prop where
  os : w'.os = w.os
  tape : w'.tape = w.tape
  output : w'.output = w.output
  size : w.heap.size ≤ w'.heap.size
  block : ∀ k, k < w.heap.size → ¬ S k → w'.heap[k]? = w.heap[k]?

section
variable {S T : Nat → Prop} {w w' w'' : World}
theorem Turned.refl (S : Nat → Prop) (w : World) : Turned S w w := ⟨rfl, rfl, rfl, Nat.le_refl _, fun _ _ _ => rfl⟩
/-- .. and then blocks of T, of which those that are not of S are new. -/
theorem Turned.trans (h : Turned S w w') (k : Turned T w' w'') (hT : ∀ b, T b → S b ∨ w.heap.size ≤ b) : Turned S w w'' :=
  ⟨k.os.trans h.os, k.tape.trans h.tape, k.output.trans h.output, Nat.le_trans h.size k.size, fun i hi hs =>
    (k.block i (Nat.lt_of_lt_of_le hi h.size) (fun e => (hT i e).elim hs (fun h => by omega))).trans (h.block i hi hs)⟩
theorem Turned.of_below {B : Nat} (h : Below B w w') (hB : w.heap.size ≤ B) : Turned S w w' := ⟨h.os, h.tape, h.output, h.size, fun k hk _ => h.block k (Nat.lt_of_lt_of_le hk hB)⟩
theorem Turned.of_grown {row : Option Nat} (h : w.grownBy w' row) (hr : ∀ k, row = some k → S k ∨ w.heap.size ≤ k) : Turned S w w' :=
  ⟨h.os, h.tape, h.output, h.size, fun k hk hs => h.block k hk (fun e => (hr k e.symm).elim hs (fun h => by omega))⟩
theorem Turned.below {B : Nat} (h : Turned S w w') (hB : B ≤ w.heap.size) (hS : ∀ b, S b → B ≤ b) : Below B w w' :=
  ⟨h.os, h.tape, h.output, h.size, fun k hk => h.block k (Nat.lt_of_lt_of_le hk hB) (fun e => by have := hS k e; omega)⟩
theorem Turned.set {j : Nat} {N : Nat} {v : Value} (hN : S N) : Turned S w (w.setCell ⟨N, j, none⟩ v) :=
  ⟨rfl, rfl, rfl, by simp [World.setCell], fun k _ hs => Below.heap_setCell w ⟨N, j, none⟩ v k (fun e => hs (by rw [e]; exact hN))⟩
theorem Turned.drew : Turned S w w.drew := ⟨rfl, rfl, rfl, Nat.le_refl _, fun _ _ _ => rfl⟩
theorem Turned.heap (h : Turned S w w') {k : Nat} {o : Obj} (hk : w.heap[k]? = some o) (hs : ¬ S k) : w'.heap[k]? = some o :=
  (h.block k (Array.getElem?_eq_some_iff.1 hk).1 hs).trans hk
/-- A row of a block that is not of S. -/
theorem Turned.row {B e size n : Nat} {v : Value} {xs : List Value} (h : Turned S w w') (hr : w.ownsRow B e size v n xs) (hs : ∀ b, v.ownBlock = some b → ¬ S b) : w'.ownsRow B e size v n xs := by
  refine ⟨hr.1, hr.2.imp id ?_⟩
  rintro ⟨g, cap, cur, rfl, h2, h3, h4⟩
  exact ⟨g, cap, cur, rfl, h2, h.heap h3 (hs g rfl), h4⟩
end
/-- The block of a row, told by its type. -/
theorem row_block {w : World} {B e size n : Nat} {v : Value} {xs : List Value} (hr : w.ownsRow B e size v n xs) {b : Nat} (hb : v.ownBlock = some b) : B ≤ b ∧ ∃ cur, w.heap[b]? = some (.cells cur e (0, 0)) := by
  rcases hr.2 with ⟨rfl, _⟩ | ⟨g, cap, cur, rfl, h2, h3, _⟩
  · cases hb
  · cases hb
    exact ⟨h2, cur, h3⟩
theorem row_slice {w : World} {B e size n : Nat} {v : Value} {xs : List Value} (hr : w.ownsRow B e size v n xs) : ∃ ao cap, v = .slice ao n cap := by
  rcases hr.2 with ⟨rfl, rfl⟩ | ⟨g, cap, cur, rfl, _⟩
  · exact ⟨_, _, rfl⟩
  · exact ⟨_, _, rfl⟩
theorem row_more {w : World} {B B' e size n : Nat} {v : Value} {xs : List Value} (hr : w.ownsRow B e size v n xs) (h : B' ≤ B) : w.ownsRow B' e size v n xs :=
  ⟨hr.1, hr.2.imp id fun ⟨g, cap, cur, h1, h2, h3⟩ => ⟨g, cap, cur, h1, Nat.le_trans h h2, h3⟩⟩

/-- A row's new place is the old one, or new. -/
def FreshF (w : World) (v v' : Value) : Prop := ∀ b, v'.ownBlock = some b → v.ownBlock = some b ∨ w.heap.size ≤ b

section
variable {w w' : World} {v v' : Value}
theorem FreshF.refl (w : World) (v : Value) : FreshF w v v := fun _ h => .inl h
theorem FreshF.trans {x : Value} (f : FreshF w v v') (g : FreshF w' v' x) (hs : w.heap.size ≤ w'.heap.size) : FreshF w v x := fun b e => by
  rcases g b e with e | hb
  · exact f b e
  · exact .inr (by omega)
theorem FreshF.none (w : World) (v : Value) : FreshF w v (.slice none 0 0) := fun _ e => by cases e
end
def ApartS (S T : Nat → Prop) : Prop := ∀ b, S b → ¬ T b
theorem ApartS.symm {S T : Nat → Prop} (h : ApartS S T) : ApartS T S := fun b h1 h2 => h b h2 h1
theorem ApartS.turn {S S' T : Nat → Prop} {w : World} (h : ApartS S T) (hT : ∀ b, T b → b < w.heap.size) (hf : ∀ b, S' b → S b ∨ w.heap.size ≤ b) : ApartS S' T := fun b h1 h2 => by
  rcases hf b h1 with h1 | h1
  · exact h b h1 h2
  · have := hT b h2
    omega
theorem set_block {w : World} {N j : Nat} {cs : Array Value} {t : TypeId} {x : Value} (hN : w.heap[N]? = some (.cells cs t (0, 0))) : (w.setCell ⟨N, j, none⟩ x).heap[N]? = some (.cells (cs.setIfInBounds j x) t (0, 0)) := by
  have hlt : N < w.heap.size := (Array.getElem?_eq_some_iff.1 hN).1
  have hN' : w.heap[N] = .cells cs t (0, 0) := (Array.getElem?_eq_some_iff.1 hN).2
  simp only [World.setCell, Array.getElem?_modify, if_pos]
  rw [hN]
  rfl
end Go.Proofs.Ytnggjoleiapboaa
