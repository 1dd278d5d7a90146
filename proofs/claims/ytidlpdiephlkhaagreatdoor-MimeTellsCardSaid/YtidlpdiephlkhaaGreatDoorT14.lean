/-
  Texts of this proof, put together: HdC, H10F.
-/
import Derived.Test.YtidlpdiephlkhaaGreatDoorT13
import Derived.Test.YtidlpdiephlkhaaGreatDoorT04
import Derived.Test.YtidlpdiephlkhaaGreatDoorT06
namespace Go.Proofs.YtidlpdiephlkhaaGreatDoor
open Go.RowKit

/-- All blocks but N, b, c and the bytes' own lie as they lay. -/
def KeptH (N b c : Nat) (w w' : World) : Prop := w.heap.size ≤ w'.heap.size ∧ ∀ k o, w.heap[k]? = some o → k ≠ N → k ≠ b → k ≠ c → (∀ x fz, o ≠ .cells x 5 fz) → w'.heap[k]? = some o
theorem KeptH.refl (N b c : Nat) (w : World) : KeptH N b c w w := ⟨Nat.le_refl _, fun _ _ h _ _ _ _ => h⟩
theorem KeptH.trans {N b c : Nat} {u v w : World} (h : KeptH N b c u v) (k : KeptH N b c v w) : KeptH N b c u w := ⟨Nat.le_trans h.1 k.1, fun i o hi hN hb hc ho => k.2 i o (h.2 i o hi hN hb hc ho) hN hb hc ho⟩
theorem KeptH.of {N b c : Nat} {w w' : World} (h : Lib.OthersKept 5 (some b) w w') (hz : w.heap.size ≤ w'.heap.size) : KeptH N b c w w' := ⟨hz, fun k o hk _ hb _ ho => h k o hk (by simpa using hb) ho⟩
theorem KeptH.set {N b c : Nat} {u w : World} (h : KeptH N b c u w) (v : Value) : KeptH N b c u (w.setCell ⟨c, 0, none⟩ v) := ⟨by simpa [World.setCell] using h.1, fun k o hk hN hb hc ho =>
  (Below.heap_setCell w ⟨c, 0, none⟩ v k hc).trans (h.2 k o hk hN hb hc ho)⟩
theorem KeptH.box {N b c B : Nat} {w w' : World} {t : TypeId} {v : Value} (h : KeptH N b c w w') (ht : t ≠ 5) (hN : B ≠ N) (hb : B ≠ b) (hc : B ≠ c) (hx : Boxed w B t v) : Boxed w' B t v :=
  h.2 B _ hx hN hb hc (fun x fz e => by cases e; exact ht rfl)
end Go.Proofs.YtidlpdiephlkhaaGreatDoor
namespace Go.Proofs.YtidlpdiephlkhaaGreatDoor

theorem end_cons (l : TextH) (ls : List TextH) : endH (l :: ls) = l ++ [13, 10] ++ endH ls := by
  unfold endH
  rw [List.flatMap_cons]
end Go.Proofs.YtidlpdiephlkhaaGreatDoor
