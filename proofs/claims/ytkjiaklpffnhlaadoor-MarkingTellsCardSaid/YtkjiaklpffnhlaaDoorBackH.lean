/-
  Labels of a lattice: their joins and meets are of it; a label's text is short. Plain facts.
-/
import Derived.Test.YtkjiaklpffnhlaaDoorBackN
import Derived.Test.YtkjiaklpffnhlaaDoorDom
import Derived.Laws.BitsAllLaws
namespace Go.Proofs.YtkjiaklpffnhlaaDoor
open Go.RowKit

theorem has_iff {n n' : Nat} {l : Int} {K : Nat} (hc : n' ≤ 64) : hasB n n' l K = true ↔ (0 ≤ l ∧ l < n) ∧ K < 2 ^ n' := by
  unfold hasB
  rw [Nat.min_eq_left hc]
  have hpi : ((2 ^ n' : Nat) : Int) = (2 : Int) ^ n' := by push_cast; rfl
  have hdv : ((K : Int) / (2 : Int) ^ n') = ((K / 2 ^ n' : Nat) : Int) := by push_cast; rfl
  rw [hdv]
  simp only [Bool.and_eq_true, decide_eq_true_eq, beq_iff_eq]
  refine and_congr_right fun _ => ?_
  rw [← Nat.div_eq_zero_iff_lt (Nat.two_pow_pos _)]
  exact Int.natCast_eq_zero
theorem max_of {P : Int → Prop} {a b : Int} (ha : P a) (hb : P b) : P (maxI a b) := by unfold maxI; split <;> assumption
theorem min_of {P : Int → Prop} {a b : Int} (ha : P a) (hb : P b) : P (minI a b) := by unfold minI; split <;> assumption
section
variable {n n' : Nat} {la ca lb cb : Int} (hc : n' ≤ 64) (a0 : 0 ≤ ca) (a1 : ca < 18446744073709551616) (b0 : 0 ≤ cb) (b1 : cb < 18446744073709551616)
include hc a0 a1 b0 b1
theorem has_join (ha : hasB n n' la ca = true) (hb : hasB n n' lb cb = true) : hasB n n' (maxI la lb) (bits .or .u64 ca cb) = true := by
  obtain ⟨a, rfl⟩ := Int.eq_ofNat_of_zero_le a0
  obtain ⟨b, rfl⟩ := Int.eq_ofNat_of_zero_le b0
  rw [u64_or_nat a b (by omega) (by omega)]
  rw [has_iff hc] at ha hb ⊢
  exact ⟨max_of (P := fun x => 0 ≤ x ∧ x < n) ha.1 hb.1, Nat.or_lt_two_pow ha.2 hb.2⟩
theorem has_meet (ha : hasB n n' la ca = true) (hb : hasB n n' lb cb = true) : hasB n n' (minI la lb) (bits .and .u64 ca cb) = true := by
  obtain ⟨a, rfl⟩ := Int.eq_ofNat_of_zero_le a0
  obtain ⟨b, rfl⟩ := Int.eq_ofNat_of_zero_le b0
  rw [u64_and_nat a b (by omega) (by omega)]
  rw [has_iff hc] at ha hb ⊢
  exact ⟨min_of (P := fun x => 0 ≤ x ∧ x < n) ha.1 hb.1, Nat.lt_of_le_of_lt Nat.and_le_left ha.2⟩
end
theorem text_short {ls cs : List ByteArray} (hr : rightB ls cs = true) (l k : Int) : (textT ls cs l k).length ≤ 1168 := by
  have hsz := right_sizes hr
  have hc := right_comps hr
  have ht := tailT_len (cs := cs) (fun s hs => hsz s (List.mem_append_right _ hs)) k cs.length
  have hx : (ls.getD l.toNat ByteArray.empty).size ≤ 16 := by
    by_cases h : l.toNat < ls.length
    · rw [List.getD, List.getElem?_eq_getElem h]
      exact hsz _ (List.mem_append_left _ (List.getElem_mem h))
    · rw [List.getD, List.getElem?_eq_none (by omega)]
      decide
  unfold textT
  have h2 : (ls.getD l.toNat ByteArray.empty).data.toList.length = (ls.getD l.toNat ByteArray.empty).size := rfl
  rw [List.length_append, h2]
  omega
/-- What printing answers: a label's text, or one of two errors. -/
theorem print_cases (ls cs : List ByteArray) (l k : Int) : (printB ls cs l k = (textT ls cs l k, 0) ∧ rightB ls cs = true ∧ hasB ls.length cs.length l k = true) ∨ (printB ls cs l k = ([], 8) ∧ rightB ls cs = true ∧ hasB ls.length cs.length l k = false) ∨ (printB ls cs l k = ([], 2) ∧ rightB ls cs = false) := by
  unfold printB
  cases rightB ls cs with
  | false => exact .inr (.inr ⟨rfl, rfl⟩)
  | true => cases hasB ls.length cs.length l k with
    | false => exact .inr (.inl ⟨rfl, rfl, rfl⟩)
    | true => exact .inl ⟨rfl, rfl, rfl⟩
end Go.Proofs.YtkjiaklpffnhlaaDoor
