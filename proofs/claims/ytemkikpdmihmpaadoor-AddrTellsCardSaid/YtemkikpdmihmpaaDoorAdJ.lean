/-
  What addr.readBare and readAddress come to.
-/
import Derived.Test.YtemkikpdmihmpaaDoorAdI
namespace Go.Proofs.YtemkikpdmihmpaaDoor
open Go.RowKit

/-- An address and what stands behind it, or none. -/
def ToldA (o : Option (AddrA × TextA)) (e : Ending) : Prop := match o with
  | none => ∃ X Y Z R : ByteArray, e = .returned (.tuple #[.agg #[.string X, .string Y, .string Z], .string R, .bool false])
  | some x => e = .returned (.tuple #[addrV x.1, .string (textQ x.2), .bool true])

set_option maxRecDepth 100000 in
set_option maxHeartbeats 4000000 in
theorem ardb_any (s : ByteArray) (w : World) (hs : s.size ≤ 1000000) : Calls Tryd.prog 50 #[.string s] w fun e w' => ToldA (readBareA s.data.toList) e ∧ Below w.heap.size w w' := by
  obtain ⟨w0, hw0⟩ : ∃ w0, w.alloc (.cells #[.string ⟨#[]⟩, .string ⟨#[]⟩, .string ⟨#[]⟩] 37) = w0 := ⟨_, rfl⟩
  have b0 : Below w.heap.size w w0 := by rw [← hw0]; exact (Below.refl _ _).alloc (Nat.le_refl _) _
  have r0 : AddrAt w0 w.heap.size ⟨#[]⟩ ⟨#[]⟩ ⟨#[]⟩ := by rw [← hw0]; exact addr_new w _ _ _
  obtain ⟨w1, hw1⟩ : ∃ w1, w0.alloc (.cells #[.func (.func 29) #[] #[]] 70) = w1 := ⟨_, rfl⟩
  have l1 : Below w0.heap.size w0 w1 := by rw [← hw1]; exact (Below.refl _ _).alloc (Nat.le_refl _) _
  have x1 : Boxed w1 w0.heap.size 70 (.func (.func 29) #[] #[]) := by rw [← hw1]; exact Boxed.new _ _ _
  have hod := aordot_any 29 w0
  rw [hw1] at hod
  have hc1 := acutrun_any 81 #[.pointer (some ⟨w0.heap.size, 0, none⟩)] enter_ordot (orDotA atomC) s w1 (ask_ordot 29 enter_atom atomC w0.heap.size w1 x1 (ask_atom w1)) (by omega)
  obtain ⟨X, hX⟩ : ∃ X, textQ (s.data.toList.takeWhile (orDotA atomC)) = X := ⟨_, rfl⟩
  obtain ⟨Y, hY⟩ : ∃ Y, textQ (s.data.toList.dropWhile (orDotA atomC)) = Y := ⟨_, rfl⟩
  rw [hX, hY] at hc1
  have hpre := fun W => cutpre_one Y 64 W
  rw [show Y.data.toList = s.data.toList.dropWhile (orDotA atomC) by rw [← hY]; rfl] at hpre
  have hYl := drop_len (orDotA atomC) s.data.toList
  have hsl : s.data.toList.length = s.size := rfl
  unfold readBareA
  have R0 := Lib.hid r0
  have B0 := Lib.hid b0
  have L1 := Lib.hid l1
  clear r0 b0 l1 x1 hw1
  cases hq : cutA 64 (s.data.toList.dropWhile (orDotA atomC)) with
  | none =>
    rw [hq] at hpre
    have hpre2 : ∀ W, Calls Tryd.prog 37 #[.string Y, .string ⟨#[64]⟩] W fun e w' => ∃ R, e = .returned (.tuple #[.string R, .bool false]) ∧ w' = W := fun W => (hpre W).mono fun e w' ⟨⟨R, h, _⟩, h9⟩ => ⟨R, h, h9⟩
    clear hpre hq hX hY
    go_enter Tryd.func50, Tryd.ntmps50
    go_wp2_with fail
    refine hod.mono ?_
    rintro e wx ⟨rfl, h9⟩
    obtain rfl := h9.symm
    clear h9 hod
    go_wp2_with fail
    refine hc1.mono ?_
    rintro e w2 ⟨rfl, hw2⟩
    have b2 := L1.out.trans (hw2.mono L1.out.size)
    have a2 := R0.out.below b2
    obtain ⟨q0, q1, q2, q3, q4, q5⟩ := a2.cells
    obtain ⟨k0, k1, k2, _⟩ := (a2.put ⟨#[]⟩ ⟨#[]⟩ ⟨#[]⟩).cells
    have B := Lib.hid (below_put (B0.out.trans (b2.mono B0.out.size)) (Nat.le_refl _) ⟨#[]⟩ ⟨#[]⟩ ⟨#[]⟩)
    clear hw2 b2 a2 hc1
    go_wp2_with fail
    refine (hpre2 _).mono ?_
    rintro e w3 ⟨R, rfl, h9⟩
    obtain rfl := h9.symm
    clear h9 hpre2
    go_wp2
    refine bodyPost_ret (v := .tuple #[.agg #[.string ⟨#[]⟩, .string ⟨#[]⟩, .string ⟨#[]⟩], .string ⟨#[]⟩, .bool false]) (by simp [results, Tryd.f50, go_sem, k0, k1, k2]) rfl ⟨⟨_, _, _, _, rfl⟩, B.out⟩
  | some t =>
    rw [hq] at hpre
    obtain ⟨T, hT⟩ : ∃ T, textQ t = T := ⟨_, rfl⟩
    have hpre2 : ∀ W, Calls Tryd.prog 37 #[.string Y, .string ⟨#[64]⟩] W fun e w' => e = .returned (.tuple #[.string T, .bool true]) ∧ w' = W := fun W => (hpre W).mono fun e w' ⟨⟨R, h, h2⟩, h9⟩ => ⟨by rw [h, h2 t rfl, hT]; rfl, h9⟩
    have hTs : T.size ≤ 1000000 := by
      rw [cut_len hq, List.length_cons] at hYl
      rw [← hT]
      show t.length ≤ _
      omega
    have hTd : T.data.toList = t := by rw [← hT]; rfl
    obtain ⟨D, hD⟩ : ∃ D, textQ (t.takeWhile (orDotA domC)) = D := ⟨_, rfl⟩
    obtain ⟨E, hE⟩ : ∃ E, textQ (t.dropWhile (orDotA domC)) = E := ⟨_, rfl⟩
    have hc2 : Hid (∀ W B, Boxed W B 70 (.func (.func 30) #[] #[]) → Calls Tryd.prog 41 #[.string T, .func (.func 81) #[] #[.pointer (some ⟨B, 0, none⟩)]] W fun e w' => e = .returned (.tuple #[.string D, .string E]) ∧ Below W.heap.size W w') := Lib.hid fun W B hB => by
      have := acutrun_any 81 #[.pointer (some ⟨B, 0, none⟩)] enter_ordot (orDotA domC) T W (ask_ordot 30 enter_dom domC B W hB (ask_dom W)) (by omega)
      rw [hTd, hD, hE] at this
      exact this
    obtain ⟨V, hV⟩ : ∃ V, (Value.tuple #[.agg #[.string ⟨#[]⟩, .string X, .string D], .string E, .bool true]) = V := ⟨_, rfl⟩
    have hfin : ToldA (some (([], s.data.toList.takeWhile (orDotA atomC), t.takeWhile (orDotA domC)), t.dropWhile (orDotA domC))) (.returned V) := by
      show _ = _
      rw [← hV]
      unfold addrV
      rw [hX, hD, hE]
      rfl
    have HF := Lib.hid hfin
    clear hpre hq hX hY hT hTd hD hE hfin hYl
    go_enter Tryd.func50, Tryd.ntmps50
    go_wp2_with fail
    refine hod.mono ?_
    rintro e wx ⟨rfl, h9⟩
    obtain rfl := h9.symm
    clear h9 hod
    go_wp2_with fail
    refine hc1.mono ?_
    rintro e w2 ⟨rfl, hw2⟩
    have b2 := Lib.hid (L1.out.trans (hw2.mono L1.out.size))
    have hod2 := aordot_any 30 w2
    obtain ⟨w3, hw3⟩ : ∃ w3, w2.alloc (.cells #[.func (.func 30) #[] #[]] 70) = w3 := ⟨_, rfl⟩
    have x3 : Boxed w3 w2.heap.size 70 (.func (.func 30) #[] #[]) := by rw [← hw3]; exact Boxed.new _ _ _
    have l3 : Below w2.heap.size w2 w3 := by rw [← hw3]; exact (Below.refl _ _).alloc (Nat.le_refl _) _
    rw [hw3] at hod2
    have hc3 := hc2.out w3 _ x3
    have b3 := Lib.hid (b2.out.trans (l3.mono b2.out.size))
    clear hw2 hc1 hw3 x3 l3 hc2
    go_wp2_with fail
    refine (hpre2 _).mono ?_
    rintro e wy ⟨rfl, h9⟩
    obtain rfl := h9.symm
    clear h9 hpre2
    go_wp2_with fail
    refine hod2.mono ?_
    rintro e wz ⟨rfl, h9⟩
    obtain rfl := h9.symm
    clear h9 hod2
    go_wp2_with fail
    refine hc3.mono ?_
    rintro e w4 ⟨rfl, hw4⟩
    have b4 := b3.out.trans (hw4.mono b3.out.size)
    have a2 := R0.out.below b4
    obtain ⟨q0, q1, q2, q3, q4, q5⟩ := a2.cells
    obtain ⟨k0, k1, k2, _⟩ := (a2.put ⟨#[]⟩ X D).cells
    have B := Lib.hid (below_put (B0.out.trans (b4.mono B0.out.size)) (Nat.le_refl _) ⟨#[]⟩ X D)
    clear hw4 b4 a2 hc3
    go_wp2
    refine bodyPost_ret (v := .tuple #[.agg #[.string ⟨#[]⟩, .string X, .string D], .string E, .bool true]) (by simp [results, Tryd.f50, go_sem, k0, k1, k2]) rfl ⟨by rw [hV]; exact HF.out, B.out⟩
end Go.Proofs.YtemkikpdmihmpaaDoor
