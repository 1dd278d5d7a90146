/-
  What turns and what does not: calls that write to blocks of a few, named; rows and framers that abide them. No program but a framer's type.
-/
import Derived.Test.YtflmbihdmmfcpaaF6F
import Derived.Test.YtflmbihdmmfcpaaConv
import Derived.Below
import Derived.Lib.Hide
import Derived.Maps.AppendAt
namespace Go.Proofs.Ytflmbihdmmfcpaa
open Go.RowKit

/-- Nothing of w has turned in w' but blocks of S. -/
structure Turned (S : Nat → Prop) (w w' : World) : Prop where
  os : w'.os = w.os
  tape : w'.tape = w.tape
  output : w'.output = w.output
  size : w.heap.size ≤ w'.heap.size
  block : ∀ k, k < w.heap.size → ¬ S k → w'.heap[k]? = w.heap[k]?

section
variable {S T : Nat → Prop} {w w' w'' : World}
theorem Turned.refl (S : Nat → Prop) (w : World) : Turned S w w := ⟨rfl, rfl, rfl, Nat.le_refl _, fun _ _ _ => rfl⟩
/-- .. and then blocks of T, of which those that are not of S are new. -/
theorem Turned.trans (h : Turned S w w') (k : Turned T w' w'') (hT : ∀ b, T b → S b ∨ w.heap.size ≤ b) : Turned S w w'' :=
  ⟨k.os.trans h.os, k.tape.trans h.tape, k.output.trans h.output, Nat.le_trans h.size k.size, fun i hi hs =>
    (k.block i (Nat.lt_of_lt_of_le hi h.size) (fun e => (hT i e).elim hs (fun h => by omega))).trans (h.block i hi hs)⟩
theorem Turned.of_below {B : Nat} (h : Below B w w') (hB : w.heap.size ≤ B) : Turned S w w' := ⟨h.os, h.tape, h.output, h.size, fun k hk _ => h.block k (Nat.lt_of_lt_of_le hk hB)⟩
theorem Turned.of_grown {row : Option Nat} (h : w.grownBy w' row) (hr : ∀ k, row = some k → S k ∨ w.heap.size ≤ k) : Turned S w w' :=
  ⟨h.os, h.tape, h.output, h.size, fun k hk hs => h.block k hk (fun e => (hr k e.symm).elim hs (fun h => by omega))⟩
theorem Turned.below {B : Nat} (h : Turned S w w') (hB : B ≤ w.heap.size) (hS : ∀ b, S b → B ≤ b) : Below B w w' :=
  ⟨h.os, h.tape, h.output, h.size, fun k hk => h.block k (Nat.lt_of_lt_of_le hk hB) (fun e => by have := hS k e; omega)⟩
theorem Turned.set {j : Nat} {N : Nat} {v : Value} (hN : S N) : Turned S w (w.setCell ⟨N, j, none⟩ v) :=
  ⟨rfl, rfl, rfl, by simp [World.setCell], fun k _ hs => Below.heap_setCell w ⟨N, j, none⟩ v k (fun e => hs (by rw [e]; exact hN))⟩
theorem Turned.drew : Turned S w w.drew := ⟨rfl, rfl, rfl, Nat.le_refl _, fun _ _ _ => rfl⟩
theorem Turned.heap (h : Turned S w w') {k : Nat} {o : Obj} (hk : w.heap[k]? = some o) (hs : ¬ S k) : w'.heap[k]? = some o :=
  (h.block k (Array.getElem?_eq_some_iff.1 hk).1 hs).trans hk
/-- A row of a block that is not of S. -/
theorem Turned.row {B e size n : Nat} {v : Value} {xs : List Value} (h : Turned S w w') (hr : w.ownsRow B e size v n xs) (hs : ∀ b, v.ownBlock = some b → ¬ S b) : w'.ownsRow B e size v n xs := by
  refine ⟨hr.1, hr.2.imp id ?_⟩
  rintro ⟨g, cap, cur, rfl, h2, h3, h4⟩
  exact ⟨g, cap, cur, rfl, h2, h.heap h3 (hs g rfl), h4⟩
end
/-- The block of a row, told by its type. -/
theorem row_block {w : World} {B e size n : Nat} {v : Value} {xs : List Value} (hr : w.ownsRow B e size v n xs) {b : Nat} (hb : v.ownBlock = some b) : B ≤ b ∧ ∃ cur, w.heap[b]? = some (.cells cur e (0, 0)) := by
  rcases hr.2 with ⟨rfl, _⟩ | ⟨g, cap, cur, rfl, h2, h3, _⟩
  · cases hb
  · cases hb
    exact ⟨h2, cur, h3⟩
theorem row_slice {w : World} {B e size n : Nat} {v : Value} {xs : List Value} (hr : w.ownsRow B e size v n xs) : ∃ ao cap, v = .slice ao n cap := by
  rcases hr.2 with ⟨rfl, rfl⟩ | ⟨g, cap, cur, rfl, _⟩
  · exact ⟨_, _, rfl⟩
  · exact ⟨_, _, rfl⟩
theorem row_more {w : World} {B B' e size n : Nat} {v : Value} {xs : List Value} (hr : w.ownsRow B e size v n xs) (h : B' ≤ B) : w.ownsRow B' e size v n xs :=
  ⟨hr.1, hr.2.imp id fun ⟨g, cap, cur, h1, h2, h3⟩ => ⟨g, cap, cur, h1, Nat.le_trans h h2, h3⟩⟩

/-- A framer in the block N, of the memory from B on: it keeps, in the row v, what it may of l, the bytes that wait but for a 13 at their end; h: there is such a one; k bytes were fed. -/
def FramerOf (w : World) (B N : Nat) (v : Value) (l : List UInt8) (h : Bool) (k : Int) : Prop :=
  B ≤ N ∧ w.heap[N]? = some (.cells #[v, .bool (longF l), .bool h, .int .i64 k] 60 (0, 0)) ∧ w.ownsRow B 5 1 v (keptF l).length (Lib.byteCells (keptF l))
/-- .. the bytes r wait. -/
def FramerAt (w : World) (B N : Nat) (v : Value) (r : List UInt8) (k : Int) : Prop := FramerOf w B N v (bodyF r) (halfF r) k
/-- What a framer's calls may turn. -/
def mineF (N : Nat) (v : Value) (b : Nat) : Prop := b = N ∨ v.ownBlock = some b
/-- A row's new place is the old one, or new. -/
def FreshF (w : World) (v v' : Value) : Prop := ∀ b, v'.ownBlock = some b → v.ownBlock = some b ∨ w.heap.size ≤ b

section
variable {w w' : World} {B N N' : Nat} {v v' u u' : Value} {l l' : List UInt8} {h h' : Bool} {k k' : Int}
theorem FramerOf.lt (f : FramerOf w B N v l h k) : N < w.heap.size := (Array.getElem?_eq_some_iff.1 f.2.1).1
theorem FramerOf.cells (f : FramerOf w B N v l h k) : w.cell? ⟨N, 0, none⟩ = some v ∧ w.cell? ⟨N, 1, none⟩ = some (.bool (longF l)) ∧ w.cell? ⟨N, 2, none⟩ = some (.bool h) ∧ w.cell? ⟨N, 3, none⟩ = some (.int .i64 k) ∧ ∀ j, w.frozen? ⟨N, j, none⟩ = false := by
  obtain ⟨_, hN, _⟩ := f
  refine ⟨?_, ?_, ?_, ?_, fun j => Lib.frozen_of_heap hN j⟩ <;> rw [Lib.cell_of_heap hN] <;> rfl
theorem FramerOf.ne (f : FramerOf w B N v l h k) : v.ownBlock ≠ some N := fun e => by
  obtain ⟨_, cur, hc⟩ := row_block f.2.2 e
  rw [f.2.1] at hc
  simp at hc
theorem FramerOf.blocks (f : FramerOf w B N v l h k) : ∀ b, mineF N v b → B ≤ b ∧ b < w.heap.size := by
  rintro b (rfl | e)
  · exact ⟨f.1, f.lt⟩
  · obtain ⟨h1, cur, h2⟩ := row_block f.2.2 e
    exact ⟨h1, (Array.getElem?_eq_some_iff.1 h2).1⟩
theorem FramerOf.keep {S : Nat → Prop} (f : FramerOf w B N v l h k) (t : Turned S w w') (hs : ∀ b, mineF N v b → ¬ S b) : FramerOf w' B N v l h k :=
  ⟨f.1, t.heap f.2.1 (hs N (.inl rfl)), t.row f.2.2 fun b e => hs b (.inr e)⟩
/-- Another row than a framer's bytes, and another block than its own. -/
theorem FramerOf.row_no {C e size n : Nat} {x : Value} {xs : List Value} (f : FramerOf w B N v l h k) (hr : w.ownsRow C e size x n xs) (h1 : e ≠ 5) (h2 : e ≠ 60) : ∀ b, x.ownBlock = some b → ¬ mineF N v b := by
  intro b e hm
  obtain ⟨_, cur, hc⟩ := row_block hr e
  rcases hm with rfl | hm
  · rw [f.2.1] at hc
    simp at hc
    exact h2 hc.2.symm
  · obtain ⟨_, cur', hc'⟩ := row_block f.2.2 hm
    rw [hc'] at hc
    simp at hc
    exact h1 hc.2.symm
/-- Two framers that share nothing. -/
def ApartF (N : Nat) (v : Value) (N' : Nat) (v' : Value) : Prop := ∀ b, mineF N v b → ¬ mineF N' v' b
theorem ApartF.symm (a : ApartF N v N' v') : ApartF N' v' N v := fun b h1 h2 => a b h2 h1
/-- One has gone on, the other one lies as it lay. -/
theorem ApartF.turn (a : ApartF N v N' v') (f : FramerOf w B N' v' l' h' k') (hf : FreshF w v u) : ApartF N u N' v' := by
  rintro b (rfl | e) hm
  · exact a _ (.inl rfl) hm
  · rcases hf b e with e | hge
    · exact a b (.inr e) hm
    · have := (f.blocks b hm).2
      omega
theorem FreshF.refl (w : World) (v : Value) : FreshF w v v := fun _ h => .inl h
theorem FreshF.trans {x : Value} (f : FreshF w v v') (g : FreshF w' v' x) (hs : w.heap.size ≤ w'.heap.size) : FreshF w v x := fun b e => by
  rcases g b e with e | hb
  · exact f b e
  · exact .inr (by omega)
theorem FreshF.none (w : World) (v : Value) : FreshF w v (.slice none 0 0) := fun _ e => by cases e
theorem mine_fresh (f : FreshF w v v') : ∀ b, mineF N v' b → mineF N v b ∨ w.heap.size ≤ b := by
  rintro b (rfl | e)
  · exact .inl (.inl rfl)
  · rcases f b e with e | e
    · exact .inl (.inr e)
    · exact .inr e
theorem body_half (r : List UInt8) : FramerAt w B N v r k ↔ FramerOf w B N v (bodyF r) (halfF r) k := Iff.rfl
end
end Go.Proofs.Ytflmbihdmmfcpaa
