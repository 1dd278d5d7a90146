/-
  What addr's hearer and readQuoted come to: a word between quotes, heard byte by byte.
-/
import Derived.Test.YtemkikpdmihmpaaDoorAdE
import Derived.Test.YtemkikpdmihmpaaDoorByteK
namespace Go.Proofs.YtemkikpdmihmpaaDoor
open Go.RowKit

theorem isbuilder_box {B b c : Nat} {bs : List Value} {W : World} {t : TypeId} (ht : t ≠ 5) (v : Value) (h : Lib.IsBuilder 51 5 B b bs W) (hc : ∃ x, Boxed W c t x) : Lib.IsBuilder 51 5 B b bs (W.setCell ⟨c, 0, none⟩ v) := by
  rcases h with h | h
  · exact .inl (builder_box ht v h hc)
  · exact .inr (builder_box ht v h hc)
theorem isbuilder_ne {B b c : Nat} {x : Value} {bs : List Value} {W : World} {t : TypeId} (h : Lib.IsBuilder 51 5 B b bs W) (hc : Boxed W c t x) : c ≠ b := by
  rcases h with h | h
  · exact builder_ne h hc
  · exact builder_ne h hc
theorem box_neA {w : World} {C D : Nat} {s t : TypeId} {u v : Value} (hC : Boxed w C s u) (hD : Boxed w D t v) (h : s ≠ t) : C ≠ D := fun e => by
  have hC : w.heap[C]? = some (.cells #[u] s (0, 0)) := hC
  have hD : w.heap[D]? = some (.cells #[v] t (0, 0)) := hD
  rw [e, hD] at hC
  simp at hC
  exact h hC.2.symm
/-- What hearer's closure holds: the builder, and its two boxes. -/
structure HearP (B b C D : Nat) (acc : TextA) (say : Bool) (W : World) : Prop where
  bd : Lib.IsBuilder 51 5 B b (Lib.byteCells acc) W
  xc : Boxed W C 48 (.pointer (some ⟨b, 0, none⟩))
  xd : Boxed W D 4 (.bool say)
  hD : B ≤ D
  hB : B ≤ W.heap.size
theorem HearP.set {B b C D : Nat} {acc : TextA} {say : Bool} {W : World} (h : HearP B b C D acc say W) (v : Bool) : HearP B b C D acc v (W.setCell ⟨D, 0, none⟩ (.bool v)) :=
  ⟨isbuilder_box (t := 4) (by decide) _ h.bd ⟨_, h.xd⟩, h.xc.other (box_neA h.xc h.xd (by decide)) _, h.xd.set _, h.hD, by simpa [World.setCell] using h.hB⟩
def hearGo (say : Bool) (c : UInt8) : Bool := say || decide (c ≠ 34)
def hearSay (say : Bool) (c : UInt8) : Bool := !say && decide (c = 92)
def hearAdd (say : Bool) (c : UInt8) : TextA := if say = true ∨ (c ≠ 92 ∧ c ≠ 34) then [c] else []
theorem hear_step (say : Bool) (acc : TextA) (c : UInt8) (r : TextA) : hearA say acc (c :: r) = if hearGo say c = true then hearA (hearSay say c) (acc ++ hearAdd say c) r else some (acc, r) := by
  cases say with
  | true => simp [hearA, hearGo, hearSay, hearAdd]
  | false =>
    by_cases h1 : c = 92
    · subst h1
      simp [hearA, hearGo, hearSay, hearAdd]
    · by_cases h2 : c = 34
      · subst h2
        simp [hearA, hearGo]
      · simp [hearA, hearGo, hearSay, hearAdd, h1, h2]

set_option maxRecDepth 100000 in
set_option maxHeartbeats 4000000 in
theorem ahear1_any (B b C D : Nat) (acc : TextA) (say : Bool) (c : UInt8) (w : World) (h : HearP B b C D acc say w) (hlen : acc.length ≤ 1000000000) :
    Calls Tryd.prog 92 #[.int .u8 (c.toNat : Int), .pointer (some ⟨D, 0, none⟩), .pointer (some ⟨C, 0, none⟩)] w fun e w' => e = .returned (.bool (hearGo say c)) ∧ HearP B b C D (acc ++ hearAdd say c) (hearSay say c) w' ∧ Below B w w' := by
  have H := Lib.hid h
  have nC := isbuilder_ne h.bd h.xc
  have nD := isbuilder_ne h.bd h.xd
  have c1 := h.xd.cell
  have f1 := h.xd.frozen
  have h2 := h.set false
  have H2 := Lib.hid h2
  have c2 := h2.xc.cell
  have hBD := h.hD
  have hcall := wbyte_k B b acc c _ h2.bd (by omega) h2.hB
  have hpost : ∀ w3, (Lib.BuilderAt 51 5 B b (.pointer (some ⟨b, 0, none⟩)) (Lib.byteCells (acc ++ [c])) w3 ∧ Below B (w.setCell ⟨D, 0, none⟩ (.bool false)) w3 ∧ Lib.OthersKept 5 (some b) (w.setCell ⟨D, 0, none⟩ (.bool false)) w3 ∧ (w.setCell ⟨D, 0, none⟩ (.bool false)).heap.size ≤ w3.heap.size) → HearP B b C D (acc ++ [c]) false w3 ∧ Below B w w3 := fun w3 ⟨q1, q2, q3, q4⟩ =>
    ⟨⟨.inr q1, kept_box q3 (by decide) nC h2.xc, kept_box q3 (by decide) nD h2.xd, h.hD, Nat.le_trans h2.hB q4⟩, ((Below.refl B w).setCell (p := ⟨D, 0, none⟩) h.hD _).trans q2⟩
  have HP := Lib.hid hpost
  clear h h2 hpost nC nD
  cases say with
  | true =>
    rw [show hearGo true c = true from rfl, show hearSay true c = false from rfl, show hearAdd true c = [c] from rfl]
    go_enter Tryd.func92, Tryd.ntmps92
    go_wp2_with (go_at_call 49; refine hcall.mono ?_; rintro e w3 ⟨rfl, hq⟩)
    go_ret
    exact ⟨rfl, HP.out _ hq⟩
  | false =>
    by_cases g1 : c = 92
    · subst g1
      rw [show hearGo false 92 = true from rfl, show hearSay false 92 = true from rfl, show hearAdd false 92 = [] from rfl, List.append_nil]
      have H3 := Lib.hid (H.out.set true)
      clear hcall H2 c2 HP
      go_enter Tryd.func92, Tryd.ntmps92
      go_wp2
      go_ret
      exact ⟨rfl, H3.out, (Below.refl B w).setCell (p := ⟨D, 0, none⟩) hBD _⟩
    · have k1 : ((c.toNat : Int) == 92) = false := by
        rw [beq_eq_false_iff_ne]
        exact fun e => g1 (UInt8.toNat_inj.1 (by show c.toNat = 92; omega))
      by_cases g2 : c = 34
      · subst g2
        rw [show hearGo false 34 = false from rfl, show hearSay false 34 = false from rfl, show hearAdd false 34 = [] from rfl, List.append_nil]
        clear hcall H2 c2 HP
        go_enter Tryd.func92, Tryd.ntmps92
        go_wp2
        go_ret
        exact ⟨rfl, H.out, Below.refl B w⟩
      · have k2 : ((c.toNat : Int) == 34) = false := by
          rw [beq_eq_false_iff_ne]
          exact fun e => g2 (UInt8.toNat_inj.1 (by show c.toNat = 34; omega))
        rw [show hearGo false c = true by simp [hearGo, g2], show hearSay false c = false by simp [hearSay, g1], show hearAdd false c = [c] by simp [hearAdd, g1, g2]]
        have c3 := H.out.xc.cell
        have nC := isbuilder_ne H.out.bd H.out.xc
        have nD := isbuilder_ne H.out.bd H.out.xd
        have hcall2 := wbyte_k B b acc c w H.out.bd (by omega) H.out.hB
        clear hcall H2 c2 HP g1 g2
        go_enter Tryd.func92, Tryd.ntmps92
        go_wp2_with (go_at_call 49; refine hcall2.mono ?_; rintro e w3 ⟨rfl, q1, q2, q3, q4⟩)
        go_ret
        exact ⟨rfl, ⟨.inr q1, kept_box q3 (by decide) nC H.out.xc, kept_box q3 (by decide) nD H.out.xd, H.out.hD, Nat.le_trans H.out.hB q4⟩, q2⟩
end Go.Proofs.YtemkikpdmihmpaaDoor
