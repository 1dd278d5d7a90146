/-
  What addr.apart, Mailbox and readBare come to.
-/
import Derived.Test.YtemkikpdmihmpaaDoorAdD
import Derived.Test.YtemkikpdmihmpaaDoorAdE
import Derived.Deep.RegionHeld3
namespace Go.Proofs.YtemkikpdmihmpaaDoor
open Go.RowKit

/-- An address that lies in a block of its own. -/
def AddrAt (w : World) (B : Nat) (X Y Z : ByteArray) : Prop := w.heap[B]? = some (.cells #[.string X, .string Y, .string Z] 37 (0, 0))
section
variable {w w' : World} {B : Nat} {X Y Z : ByteArray}
theorem AddrAt.lt (h : AddrAt w B X Y Z) : B < w.heap.size := heap_lt h
theorem AddrAt.cells (h : AddrAt w B X Y Z) : w.cell? ⟨B, 0, none⟩ = some (.string X) ∧ w.cell? ⟨B, 1, none⟩ = some (.string Y) ∧ w.cell? ⟨B, 2, none⟩ = some (.string Z) ∧ w.frozen? ⟨B, 0, none⟩ = false ∧ w.frozen? ⟨B, 1, none⟩ = false ∧ w.frozen? ⟨B, 2, none⟩ = false :=
  ⟨Lib.cell_of_heap h 0, Lib.cell_of_heap h 1, Lib.cell_of_heap h 2, Lib.frozen_of_heap h 0, Lib.frozen_of_heap h 1, Lib.frozen_of_heap h 2⟩
theorem AddrAt.below (h : AddrAt w B X Y Z) (hb : Below w.heap.size w w') : AddrAt w' B X Y Z := (hb.block _ h.lt).trans h
theorem AddrAt.below' {M : Nat} (h : AddrAt w B X Y Z) (hB : B < M) (hb : Below M w w') : AddrAt w' B X Y Z := (hb.block _ hB).trans h
theorem addr_new (w : World) (X Y Z : ByteArray) : AddrAt (w.alloc (.cells #[.string X, .string Y, .string Z] 37)) w.heap.size X Y Z := heap_alloc_new w _
theorem AddrAt.put (h : AddrAt w B X Y Z) (X' Y' Z' : ByteArray) : AddrAt (((w.setCell ⟨B, 0, none⟩ (.string X')).setCell ⟨B, 1, none⟩ (.string Y')).setCell ⟨B, 2, none⟩ (.string Z')) B X' Y' Z' := by
  unfold AddrAt at h ⊢
  have h1 := heap_setCell_same w B 0 _ _ (.string X') h
  have h2 := heap_setCell_same _ B 1 _ _ (.string Y') h1
  have h3 := heap_setCell_same _ B 2 _ _ (.string Z') h2
  rw [h3]
  rfl
theorem AddrAt.name (h : AddrAt w B X Y Z) (X' : ByteArray) : AddrAt (w.setCell ⟨B, 0, none⟩ (.string X')) B X' Y Z := by
  unfold AddrAt at h ⊢
  rw [heap_setCell_same w B 0 _ _ (.string X') h]
  rfl
theorem below_put {M : Nat} {v : World} (h : Below M v w) (hB : M ≤ B) (X' Y' Z' : ByteArray) : Below M v (((w.setCell ⟨B, 0, none⟩ (.string X')).setCell ⟨B, 1, none⟩ (.string Y')).setCell ⟨B, 2, none⟩ (.string Z')) :=
  ((h.setCell (p := ⟨B, 0, none⟩) hB _).setCell (p := ⟨B, 1, none⟩) hB _).setCell (p := ⟨B, 2, none⟩) hB _
end
theorem sclone_anyA (s : ByteArray) (w : World) (hs : s.size ≤ 100000000) : Calls Tryd.prog 39 #[.string s] w fun e w' => e = .returned (.string s) ∧ Below w.heap.size w w' := by
  have hc := Tryd.stringslite_Clone s w (by omega)
  go_enter Tryd.func39, Tryd.ntmps39
  go_wp2_with (go_at_call 55; refine hc.mono ?_; rintro e w' ⟨rfl, hw⟩)
  go_ret
  exact ⟨rfl, hw⟩

set_option maxRecDepth 100000 in
set_option maxHeartbeats 4000000 in
theorem aapart_any (X Y Z : ByteArray) (w : World) (h1 : X.size ≤ 100000000) (h2 : Y.size ≤ 100000000) (h3 : Z.size ≤ 100000000) :
    Calls Tryd.prog 26 #[.agg #[.string X, .string Y, .string Z]] w fun e w' => e = .returned (.agg #[.string X, .string Y, .string Z]) ∧ Below w.heap.size w w' := by
  obtain ⟨w0, hw0⟩ : ∃ w0, (w.alloc (.cells #[.string X, .string Y, .string Z] 37)).alloc (.cells #[.string ⟨#[]⟩, .string ⟨#[]⟩, .string ⟨#[]⟩] 37) = w0 := ⟨_, rfl⟩
  have z0 : w0.heap.size = w.heap.size + 2 := by rw [← hw0]; simp
  have b0 : Below w.heap.size w w0 := by rw [← hw0]; exact ((Below.refl _ _).alloc (Nat.le_refl _) _).alloc (by simp) _
  have a0 : AddrAt w0 w.heap.size X Y Z := by
    rw [← hw0]
    exact (addr_new w X Y Z).below ((Below.refl _ _).alloc (Nat.le_refl _) _)
  have r0 : AddrAt w0 (w.heap.size + 1) ⟨#[]⟩ ⟨#[]⟩ ⟨#[]⟩ := by
    rw [← hw0]
    have := addr_new (w.alloc (.cells #[.string X, .string Y, .string Z] 37)) ⟨#[]⟩ ⟨#[]⟩ ⟨#[]⟩
    rw [World.size_alloc] at this
    exact this
  have hS : Hid (∀ W, Below w0.heap.size w0 W → W.cell? ⟨w.heap.size, 0, none⟩ = some (.string X) ∧ W.cell? ⟨w.heap.size, 1, none⟩ = some (.string Y) ∧ W.cell? ⟨w.heap.size, 2, none⟩ = some (.string Z) ∧ W.cell? ⟨w.heap.size + 1, 0, none⟩ = some (.string ⟨#[]⟩) ∧ W.cell? ⟨w.heap.size + 1, 1, none⟩ = some (.string ⟨#[]⟩) ∧ W.cell? ⟨w.heap.size + 1, 2, none⟩ = some (.string ⟨#[]⟩) ∧ W.frozen? ⟨w.heap.size + 1, 0, none⟩ = false ∧ W.frozen? ⟨w.heap.size + 1, 1, none⟩ = false ∧ W.frozen? ⟨w.heap.size + 1, 2, none⟩ = false ∧ Below w0.heap.size w0 W) := Lib.hid fun W hW => by
    obtain ⟨q0, q1, q2, _⟩ := (a0.below hW).cells
    obtain ⟨p0, p1, p2, p3, p4, p5⟩ := (r0.below hW).cells
    exact ⟨q0, q1, q2, p0, p1, p2, p3, p4, p5, hW⟩
  have hc : ∀ T (hT : T.size ≤ 100000000), Hid (∀ W, (W.cell? ⟨w.heap.size, 0, none⟩ = some (.string X) ∧ W.cell? ⟨w.heap.size, 1, none⟩ = some (.string Y) ∧ W.cell? ⟨w.heap.size, 2, none⟩ = some (.string Z) ∧ W.cell? ⟨w.heap.size + 1, 0, none⟩ = some (.string ⟨#[]⟩) ∧ W.cell? ⟨w.heap.size + 1, 1, none⟩ = some (.string ⟨#[]⟩) ∧ W.cell? ⟨w.heap.size + 1, 2, none⟩ = some (.string ⟨#[]⟩) ∧ W.frozen? ⟨w.heap.size + 1, 0, none⟩ = false ∧ W.frozen? ⟨w.heap.size + 1, 1, none⟩ = false ∧ W.frozen? ⟨w.heap.size + 1, 2, none⟩ = false ∧ Below w0.heap.size w0 W) → Calls Tryd.prog 39 #[.string T] W fun e w' => e = .returned (.string T) ∧ (w'.cell? ⟨w.heap.size, 0, none⟩ = some (.string X) ∧ w'.cell? ⟨w.heap.size, 1, none⟩ = some (.string Y) ∧ w'.cell? ⟨w.heap.size, 2, none⟩ = some (.string Z) ∧ w'.cell? ⟨w.heap.size + 1, 0, none⟩ = some (.string ⟨#[]⟩) ∧ w'.cell? ⟨w.heap.size + 1, 1, none⟩ = some (.string ⟨#[]⟩) ∧ w'.cell? ⟨w.heap.size + 1, 2, none⟩ = some (.string ⟨#[]⟩) ∧ w'.frozen? ⟨w.heap.size + 1, 0, none⟩ = false ∧ w'.frozen? ⟨w.heap.size + 1, 1, none⟩ = false ∧ w'.frozen? ⟨w.heap.size + 1, 2, none⟩ = false ∧ Below w0.heap.size w0 w')) := fun T hT => Lib.hid fun W hW => by
    obtain ⟨_, _, _, _, _, _, _, _, _, hW⟩ := hW
    refine (sclone_anyA T W hT).mono ?_
    rintro e w' ⟨rfl, hb⟩
    exact ⟨rfl, hS.out _ (hW.trans (hb.mono hW.size))⟩
  have HX := hc X h1
  have HY := hc Y h2
  have HZ := hc Z h3
  have hS0 := Lib.hid (hS.out w0 (Below.refl _ _))
  have hS1 := Lib.hid (hS.out _ (Below.refl w0.heap.size w0).drew)
  have B0 := Lib.hid b0
  have R0 : Hid (∀ W, Below w0.heap.size w0 W → AddrAt W (w.heap.size + 1) ⟨#[]⟩ ⟨#[]⟩ ⟨#[]⟩) := Lib.hid fun W hW => r0.below hW
  have hwk : Hid (∀ W, (W.cell? ⟨w.heap.size, 0, none⟩ = some (.string X) ∧ W.cell? ⟨w.heap.size, 1, none⟩ = some (.string Y) ∧ W.cell? ⟨w.heap.size, 2, none⟩ = some (.string Z) ∧ W.cell? ⟨w.heap.size + 1, 0, none⟩ = some (.string ⟨#[]⟩) ∧ W.cell? ⟨w.heap.size + 1, 1, none⟩ = some (.string ⟨#[]⟩) ∧ W.cell? ⟨w.heap.size + 1, 2, none⟩ = some (.string ⟨#[]⟩) ∧ W.frozen? ⟨w.heap.size + 1, 0, none⟩ = false ∧ W.frozen? ⟨w.heap.size + 1, 1, none⟩ = false ∧ W.frozen? ⟨w.heap.size + 1, 2, none⟩ = false ∧ Below w0.heap.size w0 W) → (W.cell? ⟨w.heap.size, 0, none⟩ = some (.string X) ∧ W.cell? ⟨w.heap.size, 1, none⟩ = some (.string Y) ∧ W.cell? ⟨w.heap.size, 2, none⟩ = some (.string Z) ∧ Below (w.heap.size + 1) w0 W)) := Lib.hid fun W ⟨q0, q1, q2, _, _, _, _, _, _, q9⟩ => ⟨q0, q1, q2, q9.mono (by omega)⟩
  have hput : Hid (∀ W, (W.cell? ⟨w.heap.size, 0, none⟩ = some (.string X) ∧ W.cell? ⟨w.heap.size, 1, none⟩ = some (.string Y) ∧ W.cell? ⟨w.heap.size, 2, none⟩ = some (.string Z) ∧ Below (w.heap.size + 1) w0 W) → ((((W.setCell ⟨w.heap.size + 1, 0, none⟩ (.string X)).setCell ⟨w.heap.size + 1, 1, none⟩ (.string Y)).setCell ⟨w.heap.size + 1, 2, none⟩ (.string Z)).cell? ⟨w.heap.size, 0, none⟩ = some (.string X) ∧ (((W.setCell ⟨w.heap.size + 1, 0, none⟩ (.string X)).setCell ⟨w.heap.size + 1, 1, none⟩ (.string Y)).setCell ⟨w.heap.size + 1, 2, none⟩ (.string Z)).cell? ⟨w.heap.size, 1, none⟩ = some (.string Y) ∧ (((W.setCell ⟨w.heap.size + 1, 0, none⟩ (.string X)).setCell ⟨w.heap.size + 1, 1, none⟩ (.string Y)).setCell ⟨w.heap.size + 1, 2, none⟩ (.string Z)).cell? ⟨w.heap.size, 2, none⟩ = some (.string Z) ∧ Below (w.heap.size + 1) w0 (((W.setCell ⟨w.heap.size + 1, 0, none⟩ (.string X)).setCell ⟨w.heap.size + 1, 1, none⟩ (.string Y)).setCell ⟨w.heap.size + 1, 2, none⟩ (.string Z)))) := Lib.hid fun W ⟨q0, q1, q2, q9⟩ => by
    have hb := below_put (Below.refl (w.heap.size + 1) W) (Nat.le_refl _) X Y Z
    exact ⟨(hb.cell (p := ⟨w.heap.size, 0, none⟩) (by simp)).trans q0, (hb.cell (p := ⟨w.heap.size, 1, none⟩) (by simp)).trans q1, (hb.cell (p := ⟨w.heap.size, 2, none⟩) (by simp)).trans q2, q9.trans hb⟩
  have hw0k := Lib.hid (hwk.out _ hS0.out)
  have hw1k := Lib.hid (hwk.out _ hS1.out)
  clear a0 r0 hc b0
  go_enter Tryd.func26, Tryd.ntmps26
  go_wp2_with fail
  go_region_held3 (fun W => W.cell? ⟨w.heap.size, 0, none⟩ = some (.string X) ∧ W.cell? ⟨w.heap.size, 1, none⟩ = some (.string Y) ∧ W.cell? ⟨w.heap.size, 2, none⟩ = some (.string Z) ∧ Below (w.heap.size + 1) w0 W)
    (first | assumption | exact hw0k.out | exact hw1k.out | exact hput.out _ (by assumption) | (trace_state; fail))
    (first
      | (go_at_call 39; (with_reducible refine (HX.out _ ?_).mono ?_); (first | exact hS0.out | exact hS1.out | assumption); rintro e w1 ⟨rfl, hS11⟩; have k11 := hwk.out _ hS11; obtain ⟨x0, x1, x2, x3, x4, x5, x6, x7, x8, x9⟩ := id hS11)
      | (go_at_call 39; (with_reducible refine (HY.out _ ?_).mono ?_); (first | assumption); rintro e w2 ⟨rfl, hS12⟩; have k12 := hwk.out _ hS12; obtain ⟨y0, y1, y2, y3, y4, y5, y6, y7, y8, y9⟩ := id hS12)
      | (go_at_call 39; (with_reducible refine (HZ.out _ ?_).mono ?_); (first | assumption); rintro e w3 ⟨rfl, hS13⟩; have k13 := hwk.out _ hS13; obtain ⟨z0, z1, z2, z3, z4, z5, z6, z7, z8, z9⟩ := id hS13))
  have a3 := (R0.out w3 z9).put X Y Z
  obtain ⟨k0, k1, k2, _⟩ := a3.cells
  have B := Lib.hid (below_put (B0.out.trans (z9.mono B0.out.size)) (by omega : w.heap.size ≤ w.heap.size + 1) X Y Z)
  clear hS0 hS1 HX HY HZ hwk hput hw0k hw1k hS R0 B0
  go_wp2
  refine bodyPost_ret (v := .agg #[.string X, .string Y, .string Z]) (by simp [results, Tryd.f26, go_sem, k0, k1, k2]) rfl ⟨rfl, B.out⟩

theorem idx_one (c : UInt8) : ∀ s : TextA, (Lib.index s [c] = -1 ∧ s.dropWhile (· != c) = []) ∨ ∃ k : Nat, Lib.index s [c] = k ∧ s.takeWhile (· != c) = s.take k ∧ s.dropWhile (· != c) = c :: s.drop (k + 1)
  | [] => .inl ⟨rfl, rfl⟩
  | b :: r => by
    have hp : List.isPrefixOf [c] (b :: r) = (c == b) := by simp [List.isPrefixOf]
    rw [Lib.index, hp]
    by_cases hb : b = c
    · subst hb
      refine .inr ⟨0, by simp, ?_, ?_⟩
      · simp
      · simp
    · have h1 : (c == b) = false := by rw [beq_eq_false_iff_ne]; exact fun e => hb e.symm
      have h2 : (b != c) = true := by rw [bne_iff_ne]; exact hb
      rw [h1, List.takeWhile_cons, List.dropWhile_cons, h2]
      rcases idx_one c r with ⟨q1, q2⟩ | ⟨k, q1, q2, q3⟩
      · left
        rw [q1]
        exact ⟨rfl, q2⟩
      · right
        refine ⟨k + 1, ?_, ?_, ?_⟩
        · rw [q1]
          have : ((k : Int) == -1) = false := by rw [beq_eq_false_iff_ne]; omega
          simp [this]
        · rw [if_pos rfl, q2]
          rfl
        · rw [if_pos rfl, q3]
          rfl
theorem cut_one (c : UInt8) (s : TextA) : Lib.cut s [c] = match cutA c (s.dropWhile (· != c)) with | none => (s, [], false) | some t => (s.takeWhile (· != c), t, true) := by
  unfold Lib.cut
  rcases idx_one c s with ⟨q1, q2⟩ | ⟨k, q1, q2, q3⟩
  · rw [q1, q2]
    rfl
  · rw [q1, q2, q3, cutA_cons, if_pos rfl, if_pos (by omega)]
    simp

theorem bound_abideA {m : Int} {w w' : World} (hm : w.cell? ⟨0, 0, none⟩ = some (.int .i64 m)) (hb : Below w.heap.size w w') : w'.cell? ⟨0, 0, none⟩ = some (.int .i64 m) := by
  refine (hb.cell (p := ⟨0, 0, none⟩) ?_).trans hm
  show 0 < w.heap.size
  rcases Nat.lt_or_ge 0 w.heap.size with h | h
  · exact h
  · rw [World.cell?, Array.getElem?_eq_none h] at hm
    simp at hm

/-- What asking for a mailbox comes to. -/
def mailV : Option AddrA → Value
  | none => .tuple #[.agg #[.string ⟨#[]⟩, .string ⟨#[]⟩, .string ⟨#[]⟩], .int .i64 2]
  | some a => .tuple #[addrV a, .int .i64 0]

set_option maxRecDepth 100000 in
set_option maxHeartbeats 4000000 in
theorem amail_any (s : ByteArray) (m : Int) (w : World) (hs : s.size ≤ 100000000) (hm : w.cell? ⟨0, 0, none⟩ = some (.int .i64 m)) :
    Calls Tryd.prog 12 #[.string s] w fun e w' => e = .returned (mailV (mailA s.data.toList)) ∧ Below w.heap.size w w' := by
  obtain ⟨w0, hw0⟩ : ∃ w0, w.alloc (.cells #[.string ⟨#[]⟩, .string ⟨#[]⟩, .string ⟨#[]⟩] 37) = w0 := ⟨_, rfl⟩
  have b0 : Below w.heap.size w w0 := by rw [← hw0]; exact (Below.refl _ _).alloc (Nat.le_refl _) _
  have r0 : AddrAt w0 w.heap.size ⟨#[]⟩ ⟨#[]⟩ ⟨#[]⟩ := by rw [← hw0]; exact addr_new w _ _ _
  have z0 : w0.heap.size = w.heap.size + 1 := by rw [← hw0]; simp
  have hcut := Tryd.strings_Cut s ⟨#[64]⟩ m w0 (by omega) (bound_abideA hm b0)
  rw [show (⟨#[64]⟩ : ByteArray).data.toList = [64] from rfl, cut_one] at hcut
  have hl : s.data.toList.length = s.size := rfl
  obtain ⟨M, hM⟩ : ∃ M, mailV (mailA s.data.toList) = M := ⟨_, rfl⟩
  rw [hM]
  unfold mailA at hM
  cases hq : cutA 64 (s.data.toList.dropWhile (· != 64)) with
  | none =>
    rw [hq] at hcut hM
    obtain ⟨E, hE⟩ : ∃ E : ByteArray, ⟨#[]⟩ = E := ⟨_, rfl⟩
    have hcut2 : Calls Tryd.prog 25 #[.string s, .string ⟨#[64]⟩] w0 fun e w' => e = .returned (.tuple #[.string s, .string E, .bool false]) ∧ Below w0.heap.size w0 w' := by
      refine hcut.mono ?_
      rintro e w' ⟨he, n, rfl⟩
      exact ⟨by rw [he, ← hE], below_drewN (Below.refl _ _) n⟩
    subst hM
    have R0 := Lib.hid r0
    have B0 := Lib.hid b0
    clear hcut hq r0 b0 hE
    go_enter Tryd.func12, Tryd.ntmps12
    go_wp2_with fail
    refine hcut2.mono ?_
    rintro e w1 ⟨rfl, hw1⟩
    obtain ⟨w2, hw2⟩ : ∃ w2, w1.alloc (.cells #[.string ⟨#[]⟩, .string s, .string E] 37) = w2 := ⟨_, rfl⟩
    have b2 : Below w0.heap.size w0 w2 := by rw [← hw2]; exact hw1.alloc hw1.size _
    have a2 := R0.out.below b2
    have n2 : AddrAt w2 w1.heap.size ⟨#[]⟩ s E := by rw [← hw2]; exact addr_new w1 _ _ _
    obtain ⟨y0, y1, y2, y3, y4, y5⟩ := n2.cells
    obtain ⟨q0, q1, q2, q3, q4, q5⟩ := a2.cells
    obtain ⟨k0, k1, k2, _⟩ := (a2.put ⟨#[]⟩ ⟨#[]⟩ ⟨#[]⟩).cells
    have B := Lib.hid (below_put (B0.out.trans (b2.mono B0.out.size)) (Nat.le_refl _) ⟨#[]⟩ ⟨#[]⟩ ⟨#[]⟩)
    clear hcut2 hw1 b2 a2 n2
    go_wp2
    refine bodyPost_ret (v := .tuple #[.agg #[.string ⟨#[]⟩, .string ⟨#[]⟩, .string ⟨#[]⟩], .int .i64 2]) (by simp [results, Tryd.f12, go_sem, k0, k1, k2]) rfl ⟨rfl, B.out⟩
  | some t =>
    rw [hq] at hcut hM
    obtain ⟨Y, hY⟩ : ∃ Y, textQ (s.data.toList.takeWhile (· != 64)) = Y := ⟨_, rfl⟩
    obtain ⟨Z, hZ⟩ : ∃ Z, textQ t = Z := ⟨_, rfl⟩
    have hcut2 : Calls Tryd.prog 25 #[.string s, .string ⟨#[64]⟩] w0 fun e w' => e = .returned (.tuple #[.string Y, .string Z, .bool true]) ∧ Below w0.heap.size w0 w' := by
      refine hcut.mono ?_
      rintro e w' ⟨he, n, rfl⟩
      exact ⟨by rw [he, ← hY, ← hZ]; rfl, below_drewN (Below.refl _ _) n⟩
    have hYs : Y.size ≤ 100000000 := by
      rw [← hY]
      have h1 := (List.takeWhile_sublist (· != (64 : UInt8)) (l := s.data.toList)).length_le
      show (s.data.toList.takeWhile (· != 64)).length ≤ _
      omega
    have hZs : Z.size ≤ 100000000 := by
      rw [← hZ]
      have h1 := drop_len (· != (64 : UInt8)) s.data.toList
      rw [cut_len hq, List.length_cons] at h1
      show t.length ≤ _
      omega
    have hr := fun W => aright_any ([], s.data.toList.takeWhile (· != 64), t) W
    unfold addrV at hr
    simp only [hY, hZ] at hr
    rw [show textQ [] = (⟨#[]⟩ : ByteArray) from rfl] at hr
    have hap := fun W => aapart_any ⟨#[]⟩ Y Z W (by decide) hYs hZs
    cases hrt : rightA ([], s.data.toList.takeWhile (· != 64), t) with
    | false =>
      rw [hrt] at hr
      simp only [hrt] at hM
      subst hM
      have R0 := Lib.hid r0
      have B0 := Lib.hid b0
      clear hcut hq r0 b0 hrt hY hZ
      go_enter Tryd.func12, Tryd.ntmps12
      go_wp2_with fail
      refine hcut2.mono ?_
      rintro e w1 ⟨rfl, hw1⟩
      clear hcut2
      have hn := Lib.hid (fun W (hW : Below w1.heap.size w1 W) => (hW.block w1.heap.size))
      obtain ⟨w2, hw2⟩ : ∃ w2, w1.alloc (.cells #[.string ⟨#[]⟩, .string Y, .string Z] 37) = w2 := ⟨_, rfl⟩
      have b2 : Below w0.heap.size w0 w2 := by rw [← hw2]; exact hw1.alloc hw1.size _
      have n2 : AddrAt w2 w1.heap.size ⟨#[]⟩ Y Z := by rw [← hw2]; exact addr_new w1 _ _ _
      obtain ⟨y0, y1, y2, y3, y4, y5⟩ := n2.cells
      have hB2 := Lib.hid b2
      clear hw1 hn b2
      go_wp2_with fail
      refine (hr _).mono ?_
      rintro e w3 ⟨rfl, hw3⟩
      have b3 := hB2.out.trans (hw3.mono hB2.out.size)
      have a2 := R0.out.below b3
      obtain ⟨q0, q1, q2, q3, q4, q5⟩ := a2.cells
      obtain ⟨k0, k1, k2, _⟩ := (a2.put ⟨#[]⟩ ⟨#[]⟩ ⟨#[]⟩).cells
      have B := Lib.hid (below_put (B0.out.trans (b3.mono B0.out.size)) (Nat.le_refl _) ⟨#[]⟩ ⟨#[]⟩ ⟨#[]⟩)
      clear hw3 b3 a2 hr
      go_wp2
      refine bodyPost_ret (v := .tuple #[.agg #[.string ⟨#[]⟩, .string ⟨#[]⟩, .string ⟨#[]⟩], .int .i64 2]) (by simp [results, Tryd.f12, go_sem, k0, k1, k2]) rfl ⟨rfl, B.out⟩
    | true =>
      rw [hrt] at hr
      simp only [hrt] at hM
      have hM2 : M = .tuple #[.agg #[.string ⟨#[]⟩, .string Y, .string Z], .int .i64 0] := by
        rw [← hM, ← hY, ← hZ]
        rfl
      subst hM2
      have R0 := Lib.hid r0
      have B0 := Lib.hid b0
      clear hcut hq r0 b0 hrt hY hZ hM
      go_enter Tryd.func12, Tryd.ntmps12
      go_wp2_with fail
      refine hcut2.mono ?_
      rintro e w1 ⟨rfl, hw1⟩
      clear hcut2
      obtain ⟨w2, hw2⟩ : ∃ w2, w1.alloc (.cells #[.string ⟨#[]⟩, .string Y, .string Z] 37) = w2 := ⟨_, rfl⟩
      have b2 : Below w0.heap.size w0 w2 := by rw [← hw2]; exact hw1.alloc hw1.size _
      have n2 : AddrAt w2 w1.heap.size ⟨#[]⟩ Y Z := by rw [← hw2]; exact addr_new w1 _ _ _
      obtain ⟨y0, y1, y2, y3, y4, y5⟩ := id n2.cells
      have hB2 := Lib.hid b2
      have N2 := Lib.hid n2
      clear hw1 b2 n2
      go_wp2_with fail
      refine (hr _).mono ?_
      rintro e w3 ⟨rfl, hw3⟩
      obtain ⟨x0, x1, x2, x3, x4, x5⟩ := (N2.out.below hw3).cells
      have b3 := Lib.hid (hB2.out.trans (hw3.mono hB2.out.size))
      clear hw3 hr
      go_wp2_with fail
      refine (hap _).mono ?_
      rintro e w4 ⟨rfl, hw4⟩
      have b4 := b3.out.trans (hw4.mono b3.out.size)
      have a2 := R0.out.below b4
      obtain ⟨q0, q1, q2, q3, q4, q5⟩ := a2.cells
      obtain ⟨k0, k1, k2, _⟩ := (a2.put ⟨#[]⟩ Y Z).cells
      have B := Lib.hid (below_put (B0.out.trans (b4.mono B0.out.size)) (Nat.le_refl _) ⟨#[]⟩ Y Z)
      clear hw4 b4 a2 hap
      go_wp2
      refine bodyPost_ret (v := .tuple #[.agg #[.string ⟨#[]⟩, .string Y, .string Z], .int .i64 0]) (by simp [results, Tryd.f12, go_sem, k0, k1, k2]) rfl ⟨rfl, B.out⟩
end Go.Proofs.YtemkikpdmihmpaaDoor
