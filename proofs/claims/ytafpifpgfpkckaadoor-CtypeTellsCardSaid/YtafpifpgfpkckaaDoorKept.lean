/-
  What a builder's write leaves as it lay, and what a builder, a box and a block abide.
-/
import Derived.Test.YtafpifpgfpkckaaDoorBuildK
import Derived.RangeFuncBox
import Derived.RangeFuncNested
import Derived.RangeFuncBound
namespace Go.Proofs.YtafpifpgfpkckaaDoor
open Go.RowKit

/-- All blocks but b, c and the bytes' own lie as they lay. -/
def KeptBut (b c : Nat) (w w' : World) : Prop := ∀ k o, w.heap[k]? = some o → k ≠ b → k ≠ c → (∀ x fz, o ≠ .cells x 5 fz) → w'.heap[k]? = some o
theorem KeptBut.refl (b c : Nat) (w : World) : KeptBut b c w w := fun _ _ h _ _ _ => h
theorem KeptBut.trans {b c : Nat} {u v w : World} (h : KeptBut b c u v) (k : KeptBut b c v w) : KeptBut b c u w := fun i o hi hb hc ho => k i o (h i o hi hb hc ho) hb hc ho
theorem KeptBut.of {b c : Nat} {w w' : World} (h : Lib.OthersKept 5 (some b) w w') : KeptBut b c w w' := fun k o hk hb _ ho => h k o hk (by simpa using hb) ho
theorem KeptBut.set {b c : Nat} {u w : World} (h : KeptBut b c u w) (v : Value) : KeptBut b c u (w.setCell ⟨c, 0, none⟩ v) := fun k o hk hb hc ho =>
  (Below.heap_setCell w ⟨c, 0, none⟩ v k hc).trans (h k o hk hb hc ho)
theorem KeptBut.box {b c B : Nat} {w w' : World} {t : TypeId} {v : Value} (h : KeptBut b c w w') (ht : t ≠ 5) (hb : B ≠ b) (hc : B ≠ c) (hx : Boxed w B t v) : Boxed w' B t v :=
  h B _ hx hb hc (fun x fz e => by cases e; exact ht rfl)
theorem kept_box {b B : Nat} {w w' : World} {t : TypeId} {v : Value} (h : Lib.OthersKept 5 (some b) w w') (ht : t ≠ 5) (hb : B ≠ b) (hx : Boxed w B t v) : Boxed w' B t v :=
  h B _ hx (by simpa using hb) (fun x fz e => by cases e; exact ht rfl)
/-- A builder abides a write into a box. -/
theorem builder_box {B b c : Nat} {p : Value} {bs : List Value} {W : World} {t : TypeId} (ht : t ≠ 5) (v : Value) (h : Lib.BuilderAt 51 5 B b p bs W) (hc : ∃ x, Boxed W c t x) : Lib.BuilderAt 51 5 B b p bs (W.setCell ⟨c, 0, none⟩ v) := by
  obtain ⟨x, hc⟩ := hc
  have hc : W.heap[c]? = some (.cells #[x] t (0, 0)) := hc
  obtain ⟨hB, u, hbk, hown, hne⟩ := h
  have hbc : b ≠ c := fun e => by
    rw [e, hc] at hbk
    simp at hbk
  refine ⟨hB, u, (Below.heap_setCell W ⟨c, 0, none⟩ v b hbc).trans hbk, hown.kept (grownBy_setCell' W c v) ?_, hne⟩
  rcases hown.2 with ⟨rfl, _⟩ | ⟨g, cap, cur, rfl, _, hgb, _⟩
  · exact .inl rfl
  · refine .inr fun e => ?_
    have e2 : c = g := by simpa [Value.ownBlock] using e.symm
    rw [← e2, hc] at hgb
    simp at hgb
    exact ht hgb.2
theorem builder_ne {B b c : Nat} {p x : Value} {bs : List Value} {W : World} {t : TypeId} (h : Lib.BuilderAt 51 5 B b p bs W) (hc : Boxed W c t x) : c ≠ b := fun e => by
  obtain ⟨_, v, hb, _⟩ := h
  have hc : W.heap[c]? = some (.cells #[x] t (0, 0)) := hc
  rw [e, hb] at hc
  simp at hc

theorem heap_lt {w : World} {k : Nat} {o : Obj} (h : w.heap[k]? = some o) : k < w.heap.size := (Array.getElem?_eq_some_iff.1 h).1
/-- What lies as it lay is the same builder, the same box. -/
theorem builder_below {B b : Nat} {p : Value} {bs : List Value} {w w' : World} (h : Lib.BuilderAt 51 5 B b p bs w) (hb : Below w.heap.size w w') : Lib.BuilderAt 51 5 B b p bs w' := by
  obtain ⟨hB, v, hbk, ⟨hl, hown⟩, hne⟩ := h
  refine ⟨hB, v, (hb.block b (heap_lt hbk)).trans hbk, ⟨hl, ?_⟩, hne⟩
  rcases hown with h | ⟨g, cap, cur, hv, hg, hh, r⟩
  · exact .inl h
  · exact .inr ⟨g, cap, cur, hv, hg, (hb.block g (heap_lt hh)).trans hh, r⟩
theorem boxed_below {B : Nat} {t : TypeId} {v : Value} {w w' : World} (h : Boxed w B t v) (hb : Below w.heap.size w w') : Boxed w' B t v := (hb.block B h.lt).trans h
theorem kept_below {b c : Nat} {w w' : World} (hb : Below w.heap.size w w') : KeptBut b c w w' := fun k _ hk _ _ _ => (hb.block k (heap_lt hk)).trans hk
theorem isbuilder_below {B b : Nat} {bs : List Value} {w w' : World} (h : Lib.IsBuilder 51 5 B b bs w) (hb : Below w.heap.size w w') : Lib.IsBuilder 51 5 B b bs w' := by
  rcases h with h | h
  · exact .inl (builder_below h hb)
  · exact .inr (builder_below h hb)
theorem boxed_ownQ {W W' : World} {row : Option Nat} {B : Nat} {t : TypeId} {v : Value} (h : Boxed W B t v) (hg : W.grownBy W' row) (hr : ∀ r, row = some r → ∃ o : Obj, W.heap[r]? = some o ∧ o.isCells = false) : Boxed W' B t v :=
  h.kept hg fun e => by
    obtain ⟨o, ho, hc⟩ := hr B e.symm
    rw [show W.heap[B]? = _ from h] at ho
    cases ho
    cases hc
end Go.Proofs.YtafpifpgfpkckaaDoor
