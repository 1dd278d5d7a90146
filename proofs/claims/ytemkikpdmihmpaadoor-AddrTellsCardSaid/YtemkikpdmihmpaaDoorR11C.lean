/-
  The document's answer of layer 11: whether a name is plain; a mailbox.
-/
import Derived.Test.YtemkikpdmihmpaaDoorR11B
import Derived.Test.YtemkikpdmihmpaaDoorAdG
namespace Go.Proofs.YtemkikpdmihmpaaDoor
open Go.RowKit

/-- What stands at the head of plain's loop. -/
def PlSt (s : ByteArray) (R : Bool) (fr i : Nat) : Prop :=
  (fr ≤ i ∧ i ≤ s.size ∧ (∀ k (h : k < s.size), fr ≤ k → k < i → s[k] ≠ 32) ∧ joinedA 32 atomC (s.data.toList.drop fr) = R) ∨ (i = s.size + 1 ∧ R = true)
theorem pl_free {s : ByteArray} {fr i : Nat} (hi : i ≤ s.size) (h : ∀ k (h : k < s.size), fr ≤ k → k < i → s[k] ≠ 32) : (32 : UInt8) ∉ (s.data.toList.drop fr).take (i - fr) := fun hm => by
  obtain ⟨k, hk, e⟩ := List.mem_iff_getElem.1 hm
  rw [List.length_take, List.length_drop] at hk
  rw [List.getElem_take, List.getElem_drop] at e
  have hk2 : fr + k < s.size := by
    have : s.data.toList.length = s.size := rfl
    omega
  exact h (fr + k) hk2 (by omega) (by omega) e
theorem pl_piece {s : ByteArray} {R : Bool} {fr i : Nat} (hf : fr ≤ i) (hi : i < s.size) (h : ∀ k (h : k < s.size), fr ≤ k → k < i → s[k] ≠ 32) (hj : joinedA 32 atomC (s.data.toList.drop fr) = R) (h32 : s[i] = 32) :
    (pieceA atomC ((s.data.toList.drop fr).take (i - fr)) && joinedA 32 atomC (s.data.toList.drop (i + 1))) = R := by
  have hno := pl_free (by omega) h
  have e : s.data.toList.drop fr = (s.data.toList.drop fr).take (i - fr) ++ 32 :: s.data.toList.drop (i + 1) := by
    conv => lhs; rw [← List.take_append_drop (i - fr) (s.data.toList.drop fr)]
    rw [List.drop_drop, show fr + (i - fr) = i by omega, cons_at s i hi, h32]
  rw [← hj]
  conv => rhs; rw [e]
  unfold joinedA
  rw [splitB_at 32 _ _ hno]
  rfl
theorem pl_last {s : ByteArray} {R : Bool} {fr : Nat} (hf : fr ≤ s.size) (h : ∀ k (h : k < s.size), fr ≤ k → k < s.size → s[k] ≠ 32) (hj : joinedA 32 atomC (s.data.toList.drop fr) = R) :
    pieceA atomC ((s.data.toList.drop fr).take (s.size - fr)) = R := by
  have hno := pl_free (Nat.le_refl _) h
  have hl : s.data.toList.length = s.size := rfl
  rw [List.take_of_length_le (by rw [List.length_drop]; omega)] at hno ⊢
  rw [← hj]
  unfold joinedA
  rw [splitB_one 32 _ hno]
  simp

set_option maxRecDepth 100000 in
set_option maxHeartbeats 4000000 in
theorem r11plain_any (s : ByteArray) (w : World) (hs : s.size ≤ 1000000) : Calls Tryd.prog 21 #[.string s] w fun e w' => e = .returned (.bool (joinedA 32 atomC s.data.toList)) ∧ w' = w := by
  obtain ⟨R, hR⟩ : ∃ R, joinedA 32 atomC s.data.toList = R := ⟨_, rfl⟩
  rw [hR]
  have h0 : PlSt s R 0 0 := .inl ⟨Nat.le_refl _, Nat.zero_le _, fun k _ _ h => (by omega), by rw [List.drop_zero]; exact hR⟩
  clear hR
  go_enter Tryd.func21, Tryd.ntmps21
  go_wp2
  go_loop [3, 4] (fun fv iv => ∃ fr i : Nat, fv = .int .i64 fr ∧ iv = .int .i64 i ∧ i ≤ s.size + 1 ∧ PlSt s R fr i) (fun _ iv => s.size + 1 - (intOf iv).toNat)
  case atStart => exact ⟨0, 0, rfl, rfl, by omega, h0⟩
  case round =>
    obtain ⟨fr, i, rfl, rfl, hi, hst⟩ := hrel
    by_cases hle : i ≤ s.size
    · obtain ⟨q1, q2, q3, q4⟩ : fr ≤ i ∧ i ≤ s.size ∧ (∀ k (h : k < s.size), fr ≤ k → k < i → s[k] ≠ 32) ∧ joinedA 32 atomC (s.data.toList.drop fr) = R := by
        rcases hst with h | ⟨h, _⟩
        · exact h
        · omega
      have c0 : (fr : Int) ≤ (i : Int) := by omega
      have c1 : (i : Int) ≤ (s.size : Int) := by omega
      obtain ⟨P, hP⟩ : ∃ P, s.extract fr i = P := ⟨_, rfl⟩
      have hPd : P.data.toList = (s.data.toList.drop fr).take (i - fr) := by rw [← hP, cut_text]; rfl
      have hPs : P.size ≤ 1000000 := by
        have e : P.size = P.data.toList.length := rfl
        have hl : s.data.toList.length = s.size := rfl
        rw [e, hPd, List.length_take, List.length_drop]
        omega
      have hat := fun W => r11atom_any P W hPs
      rw [hPd] at hat
      by_cases hend : i = s.size
      · have f1 : ((i : Int) == (s.size : Int)) = true := by rw [beq_iff_eq]; omega
        have hp := pl_last (by omega) (fun k h h1 h2 => q3 k h h1 (by omega)) q4
        rw [← hend] at hp
        rw [hp] at hat
        have hi2 : i + 1 ≤ s.size + 1 := by omega
        have Hn9 : R = true → PlSt s true (i + 1) (i + 1) := fun _ => .inr ⟨by omega, rfl⟩
        clear hst q1 q3 q4 hPd hPs hp hend h0
        cases R with
        | true =>
          have Hn : PlSt s true (i + 1) (i + 1) := Hn9 rfl
          clear Hn9
          go_wp2_with (go_at_call 24; refine (hat _).mono ?_; rintro e w1 ⟨rfl, h9⟩; obtain rfl := h9.symm)
          go_round
          case rel => exact ⟨i + 1, i + 1, by go_num, by go_num, by omega, Hn⟩
          case measure => simp [intOf]; omega
        | false =>
          go_wp2_with (go_at_call 24; refine (hat _).mono ?_; rintro e w1 ⟨rfl, h9⟩; obtain rfl := h9.symm)
          go_ret
          exact ⟨rfl, rfl⟩
      · have hlt : i < s.size := by omega
        have f1 : ((i : Int) == (s.size : Int)) = false := by rw [beq_eq_false_iff_ne]; omega
        by_cases h32 : s[i] = 32
        · have f2 : ((s[i].toNat : Int) == 32) = true := by rw [h32]; rfl
          have hp := pl_piece q1 hlt q3 q4 h32
          clear hst q3 q4 hPd hPs h32 hend h0
          cases hq : pieceA atomC ((s.data.toList.drop fr).take (i - fr)) with
          | true =>
            rw [hq] at hp hat
            have Hn : PlSt s R (i + 1) (i + 1) := .inl ⟨Nat.le_refl _, by omega, fun k _ h1 h2 => (by omega), hp⟩
            clear hq hp
            go_wp2_with (go_at_call 24; refine (hat _).mono ?_; rintro e w1 ⟨rfl, h9⟩; obtain rfl := h9.symm)
            go_round
            case rel => exact ⟨i + 1, i + 1, by go_num, by go_num, by omega, Hn⟩
            case measure => simp [intOf]; omega
          | false =>
            rw [hq] at hp hat
            have Hr : Hid (false = R) := Lib.hid hp
            clear hq hp
            go_wp2_with (go_at_call 24; refine (hat _).mono ?_; rintro e w1 ⟨rfl, h9⟩; obtain rfl := h9.symm)
            go_ret
            exact ⟨by rw [← Hr.out]; rfl, rfl⟩
        · have f2 : ((s[i].toNat : Int) == 32) = false := by
            rw [beq_eq_false_iff_ne]
            exact fun e => h32 (UInt8.toNat_inj.1 (by show s[i].toNat = 32; omega))
          have Hn : PlSt s R fr (i + 1) := .inl ⟨by omega, by omega, fun k hk h1 h2 => by
            rcases Nat.lt_or_ge k i with h | h
            · exact q3 k hk h1 h
            · obtain rfl : k = i := by omega
              exact h32, q4⟩
          clear hst q3 q4 hPd hPs h32 hend hP hat h0
          go_wp2
          go_round
          case rel => exact ⟨fr, i + 1, by go_num, by go_num, by omega, Hn⟩
          case measure => simp [intOf]; omega
    · have hRt : R = true := by
        rcases hst with ⟨_, h, _⟩ | ⟨_, h⟩
        · omega
        · exact h
      subst hRt
      clear hst h0
      go_wp2
      go_ret
      exact ⟨rfl, rfl⟩

/-- An address of the document's that lies in a block of its own. -/
def RAt (w : World) (B : Nat) (X Y Z : ByteArray) : Prop := w.heap[B]? = some (.cells #[.string X, .string Y, .string Z] 40 (0, 0))
section
variable {w w' : World} {B : Nat} {X Y Z : ByteArray}
theorem RAt.lt (h : RAt w B X Y Z) : B < w.heap.size := heap_lt h
theorem RAt.cells (h : RAt w B X Y Z) : w.cell? ⟨B, 0, none⟩ = some (.string X) ∧ w.cell? ⟨B, 1, none⟩ = some (.string Y) ∧ w.cell? ⟨B, 2, none⟩ = some (.string Z) ∧ w.frozen? ⟨B, 0, none⟩ = false ∧ w.frozen? ⟨B, 1, none⟩ = false ∧ w.frozen? ⟨B, 2, none⟩ = false :=
  ⟨Lib.cell_of_heap h 0, Lib.cell_of_heap h 1, Lib.cell_of_heap h 2, Lib.frozen_of_heap h 0, Lib.frozen_of_heap h 1, Lib.frozen_of_heap h 2⟩
theorem RAt.below (h : RAt w B X Y Z) (hb : Below w.heap.size w w') : RAt w' B X Y Z := (hb.block _ h.lt).trans h
theorem rat_new (w : World) (X Y Z : ByteArray) : RAt (w.alloc (.cells #[.string X, .string Y, .string Z] 40)) w.heap.size X Y Z := heap_alloc_new w _
theorem RAt.put (h : RAt w B X Y Z) (X' Y' Z' : ByteArray) : RAt (((w.setCell ⟨B, 0, none⟩ (.string X')).setCell ⟨B, 1, none⟩ (.string Y')).setCell ⟨B, 2, none⟩ (.string Z')) B X' Y' Z' := by
  unfold RAt at h ⊢
  have h1 := heap_setCell_same w B 0 _ _ (.string X') h
  have h2 := heap_setCell_same _ B 1 _ _ (.string Y') h1
  have h3 := heap_setCell_same _ B 2 _ _ (.string Z') h2
  rw [h3]
  rfl
theorem RAt.name (h : RAt w B X Y Z) (X' : ByteArray) : RAt (w.setCell ⟨B, 0, none⟩ (.string X')) B X' Y Z := by
  unfold RAt at h ⊢
  rw [heap_setCell_same w B 0 _ _ (.string X') h]
  rfl
end

end Go.Proofs.YtemkikpdmihmpaaDoor
