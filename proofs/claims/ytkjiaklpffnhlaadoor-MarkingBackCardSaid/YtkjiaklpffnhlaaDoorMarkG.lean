/-
  What the marking statements need of the plain functions, in the form in which their walks ask it.
-/
import Derived.Test.YtkjiaklpffnhlaaDoorMark
namespace Go.Proofs.YtkjiaklpffnhlaaDoor
open Go.RowKit

theorem mark_cases (ls cs : List ByteArray) (l k : Int) (t : List UInt8) : (rightB ls cs = true ∧ hasB ls.length cs.length l k = true) ∨ ∃ z : Int, (z = 8 ∨ z = 2) ∧ markB ls cs l k t = ([], z) ∧ (rightB ls cs && hasB ls.length cs.length l k) = false := by
  rcases print_cases ls cs l k with ⟨_, hr, hh⟩ | ⟨hp, hr, hh⟩ | ⟨hp, hr⟩
  · exact .inl ⟨hr, hh⟩
  · have hl : lineB ls cs l k = ([], 8) := by unfold lineB; rw [hp, if_neg (by decide)]
    exact .inr ⟨8, .inl rfl, by unfold markB; rw [hl, if_neg (by decide)], by rw [hr, hh]; rfl⟩
  · have hl : lineB ls cs l k = ([], 2) := by unfold lineB; rw [hp, if_neg (by decide)]
    exact .inr ⟨2, .inr rfl, by unfold markB; rw [hl, if_neg (by decide)], by rw [hr]; rfl⟩
section
variable {ls cs : List ByteArray} {l k : Int}
theorem has_level (hh : hasB ls.length cs.length l k = true) : 0 ≤ l := by
  unfold hasB at hh
  simp only [Bool.and_eq_true, decide_eq_true_eq] at hh
  exact hh.1.1
/-- A text marked with a label of the lattice: its bytes, what is read of it, and what passes. -/
theorem marked (hr : rightB ls cs = true) (h0 : 0 ≤ k) (h1 : k < 18446744073709551616) (hh : hasB ls.length cs.length l k = true) (t : ByteArray) :
    ∃ M : List UInt8, M.length ≤ 1176 + t.size ∧ markB ls cs l k t.data.toList = (M, 0) ∧ readV (readB ls cs M) = .tuple #[.agg #[.int .i64 l, .int .u64 k], .string t, .int .i64 0] ∧ (∀ x y, checkB ls cs x y M = if domB x y l k = true then 0 else 8) := by
  have hl := has_level hh
  refine ⟨_, ?_, mark_yes hr hh t.data.toList, ?_, fun x y => ?_⟩
  · have := text_short hr l k
    have hw : markW.length = 6 := rfl
    have ht : t.data.toList.length = t.size := rfl
    simp only [List.length_append, hw, ht, List.length_cons, List.length_nil]
    omega
  · rw [read_mark hr h0 h1 hh]
    unfold readV
    simp only [Int.toNat_of_nonneg hl, bytes_of]
  · unfold checkB
    rw [read_mark hr h0 h1 hh]
    simp only [Int.toNat_of_nonneg hl, if_true]
/-- A marking line alone. -/
theorem lined (hr : rightB ls cs = true) (h0 : 0 ≤ k) (h1 : k < 18446744073709551616) (hh : hasB ls.length cs.length l k = true) :
    (markW ++ textT ls cs l k).length ≤ 1174 ∧ lineB ls cs l k = (markW ++ textT ls cs l k, 0) ∧ readV (readB ls cs (markW ++ textT ls cs l k)) = .tuple #[.agg #[.int .i64 l, .int .u64 k], .string ⟨#[]⟩, .int .i64 0]
      ∧ markB ls cs l k [] = (markW ++ textT ls cs l k ++ [13, 10], 0) := by
  have hl := has_level hh
  refine ⟨?_, line_yes hr hh, ?_, ?_⟩
  · have := text_short hr l k
    have hw : markW.length = 6 := rfl
    rw [List.length_append, hw]
    omega
  · rw [read_line hr h0 h1 hh]
    unfold readV
    simp only [Int.toNat_of_nonneg hl]
  · rw [mark_yes hr hh []]
    simp
theorem line_same {l' k' : Int} (hr : rightB ls cs = true) (h0 : 0 ≤ k) (h1 : k < 18446744073709551616) (hh : hasB ls.length cs.length l k = true) (h0' : 0 ≤ k') (h1' : k' < 18446744073709551616) (hh' : hasB ls.length cs.length l' k' = true) :
    markW ++ textT ls cs l k = markW ++ textT ls cs l' k' ↔ l = l' ∧ k = k' := by
  constructor
  · intro e
    have e2 := List.append_cancel_left e
    have p1 := parse_text hr h0 h1 hh
    rw [e2, parse_text hr h0' h1' hh'] at p1
    simp only [Option.some.injEq, Prod.mk.injEq] at p1
    have := has_level hh
    have := has_level hh'
    exact ⟨by omega, p1.2.symm⟩
  · rintro ⟨rfl, rfl⟩
    rfl
end
/-- What reading and checking a text come to, in the three ways. -/
theorem checked (ls cs : List ByteArray) (la ca lb cb : Int) (a0 : 0 ≤ ca) (a1 : ca < 18446744073709551616) (b0 : 0 ≤ cb) (b1 : cb < 18446744073709551616) (s : List UInt8) :
    (∃ (L : Nat) (k : Int) (rest : ByteArray), readV (readB ls cs s) = .tuple #[.agg #[.int .i64 L, .int .u64 k], .string rest, .int .i64 0] ∧ ((domB la ca L k = true ∧ checkB ls cs la ca s = 0 ∧ checkB ls cs (maxI la lb) (bits .or .u64 ca cb) s = 0) ∨ (domB la ca L k = false ∧ checkB ls cs la ca s = 8)))
    ∨ ∃ z : Int, (z = 11 ∨ z = 2) ∧ readV (readB ls cs s) = .tuple #[.agg #[.int .i64 0, .int .u64 0], .string ⟨#[]⟩, .int .i64 z] ∧ checkB ls cs la ca s = z ∧ checkB ls cs (maxI la lb) (bits .or .u64 ca cb) s = z := by
  have hb := read_bits (ls := ls) (cs := cs) s
  rcases read_code (ls := ls) (cs := cs) s with h | ⟨h, e⟩ | ⟨h, e⟩
  · left
    unfold checkB
    generalize readB ls cs s = r at h hb
    obtain ⟨⟨L, k⟩, rest, code⟩ := r
    simp only at h hb
    subst h
    refine ⟨L, k, ⟨rest.toArray⟩, rfl, ?_⟩
    cases hd : domB la ca L k with
    | true =>
      have hj := dom_join (la := la) (lb := lb) (lx := L) a0 a1 b0 b1 hb.1 hb.2 (.inl hd)
      exact .inl ⟨rfl, by simp, by simp [hj]⟩
    | false => exact .inr ⟨rfl, by simp⟩
  · right
    refine ⟨11, .inl rfl, by rw [e]; rfl, ?_, ?_⟩ <;> (unfold checkB; rw [e]; rfl)
  · right
    refine ⟨2, .inr rfl, by rw [e]; rfl, ?_, ?_⟩ <;> (unfold checkB; rw [e]; rfl)
end Go.Proofs.YtkjiaklpffnhlaaDoor
