/-
  What marking's functions answer, as plain functions, and what is true of them: what was marked is read; a label's line is no other one's.
-/
import Derived.Test.YtkjiaklpffnhlaaDoorBackH
import Derived.Test.YtkjiaklpffnhlaaDoorDomF
namespace Go.Proofs.YtkjiaklpffnhlaaDoor
open Go.RowKit

def markW : List UInt8 := [77, 65, 82, 75, 58, 32]
/-- A label's marking line, or the error. -/
def lineB (ls cs : List ByteArray) (l k : Int) : List UInt8 × Int := if (printB ls cs l k).2 = 0 then (markW ++ (printB ls cs l k).1, 0) else ([], (printB ls cs l k).2)
/-- A text marked, or the error. -/
def markB (ls cs : List ByteArray) (l k : Int) (t : List UInt8) : List UInt8 × Int := if (lineB ls cs l k).2 = 0 then ((lineB ls cs l k).1 ++ ([13, 10] ++ t), 0) else ([], (lineB ls cs l k).2)
/-- The label, the rest and the error of a text, in a lattice that is right. -/
def readF (ls cs : List ByteArray) (s : List UInt8) : (Nat × Int) × List UInt8 × Int :=
  if Lib.hasPrefix (Lib.cut s [13, 10]).1 markW = true then
    (match parseF (idxF ls) (idxF cs) (Lib.trimPrefix (Lib.cut s [13, 10]).1 markW) with
     | none => ((0, 0), [], 11)
     | some p => (p, (Lib.cut s [13, 10]).2.1, 0))
  else ((0, 0), [], 11)
def readB (ls cs : List ByteArray) (s : List UInt8) : (Nat × Int) × List UInt8 × Int := if rightB ls cs = true then readF ls cs s else ((0, 0), [], 2)
/-- What checking answers. -/
def checkB (ls cs : List ByteArray) (la ca : Int) (s : List UInt8) : Int := if (readB ls cs s).2.2 = 0 then (if domB la ca (readB ls cs s).1.1 (readB ls cs s).1.2 = true then 0 else 8) else (readB ls cs s).2.2

theorem index_end (r : List UInt8) : ∀ a : List UInt8, (∀ c ∈ a, c ≠ 13) → Lib.index (a ++ 13 :: 10 :: r) [13, 10] = a.length
  | [], _ => by simp [Lib.index, List.isPrefixOf]
  | b :: a, h => by
    have hb : b ≠ 13 := h b (by simp)
    have ih := index_end r a (fun c hc => h c (by simp [hc]))
    have hp : List.isPrefixOf [13, 10] (b :: (a ++ 13 :: 10 :: r)) = false := by simp [List.isPrefixOf] <;> (intro e; exact absurd e.symm hb)
    rw [List.cons_append, Lib.index, hp, ih]
    have : ¬ ((a.length : Int) == -1) = true := by simp <;> omega
    simp [this]
theorem index_free : ∀ a : List UInt8, (∀ c ∈ a, c ≠ 13) → Lib.index a [13, 10] = -1
  | [], _ => by simp [Lib.index]
  | b :: a, h => by
    have hb : b ≠ 13 := h b (by simp)
    have ih := index_free a (fun c hc => h c (by simp [hc]))
    have hp : List.isPrefixOf [13, 10] (b :: a) = false := by simp [List.isPrefixOf] <;> (intro e; exact absurd e.symm hb)
    rw [Lib.index, hp, ih]
    simp
theorem cut_end (a r : List UInt8) (h : ∀ c ∈ a, c ≠ 13) : Lib.cut (a ++ 13 :: 10 :: r) [13, 10] = (a, r, true) := by
  unfold Lib.cut
  rw [index_end r a h, if_pos (by omega)]
  simp
theorem cut_free (a : List UInt8) (h : ∀ c ∈ a, c ≠ 13) : Lib.cut a [13, 10] = (a, [], false) := by
  unfold Lib.cut
  rw [index_free a h, if_neg (by omega)]

theorem name_end {s : List UInt8} (h : nameB s = true) : ∀ c ∈ s, c ≠ 13 := by
  intro c hc e
  subst e
  unfold nameB allOk at h
  simp only [Bool.and_eq_true, List.all_eq_true] at h
  have := h.2 13 hc
  revert this
  decide
theorem get_name {ls cs : List ByteArray} {P : UInt8 → Prop} (h : ∀ s ∈ ls ++ cs, ∀ c ∈ s.data.toList, P c) (i : Nat) : (∀ c ∈ (ls.getD i ByteArray.empty).data.toList, P c) ∧ ∀ c ∈ (cs.getD i ByteArray.empty).data.toList, P c := by
  constructor
  · by_cases hi : i < ls.length
    · rw [List.getD, List.getElem?_eq_getElem hi]
      exact h _ (List.mem_append_left _ (List.getElem_mem hi))
    · rw [List.getD, List.getElem?_eq_none (by omega)]
      intro c hc
      exact absurd hc List.not_mem_nil
  · by_cases hi : i < cs.length
    · rw [List.getD, List.getElem?_eq_getElem hi]
      exact h _ (List.mem_append_right _ (List.getElem_mem hi))
    · rw [List.getD, List.getElem?_eq_none (by omega)]
      intro c hc
      exact absurd hc List.not_mem_nil
theorem tail_all {ls cs : List ByteArray} {P : UInt8 → Prop} (h : ∀ s ∈ ls ++ cs, ∀ c ∈ s.data.toList, P c) (hs : P 47) (k : Int) : ∀ i, ∀ c ∈ tailT cs k i, P c
  | 0, c, hc => by simp [tailT] at hc
  | i + 1, c, hc => by
    have ih := tail_all h hs k i
    by_cases hb : bitB k i = true
    · rw [tailT_yes hb] at hc
      rcases List.mem_append.1 hc with hc | hc
      · rcases List.mem_append.1 hc with hc | hc
        · exact ih c hc
        · have : c = 47 := by revert hc; split <;> simp
          rw [this]; exact hs
      · exact (get_name h i).2 c hc
    · rw [tailT_no (by simpa using hb)] at hc
      exact ih c hc
theorem text_all {ls cs : List ByteArray} {P : UInt8 → Prop} (h : ∀ s ∈ ls ++ cs, ∀ c ∈ s.data.toList, P c) (hs : P 47) (l k : Int) : ∀ c ∈ textT ls cs l k, P c := by
  intro c hc
  unfold textT at hc
  rcases List.mem_append.1 hc with hc | hc
  · exact (get_name h _).1 c hc
  · exact tail_all h hs k _ c hc
theorem line_end {ls cs : List ByteArray} (hr : rightB ls cs = true) (l k : Int) : ∀ c ∈ markW ++ textT ls cs l k, c ≠ 13 := by
  have hn : ∀ s ∈ ls ++ cs, ∀ c ∈ s.data.toList, c ≠ 13 := by
    unfold rightB goodB at hr
    simp only [Bool.and_eq_true, List.all_eq_true] at hr
    exact fun s hs => name_end (hr.2.2 s hs)
  intro c hc
  rcases List.mem_append.1 hc with hc | hc
  · intro e
    subst e
    revert hc
    decide
  · exact text_all hn (by decide) l k c hc
theorem has_mark (x : List UInt8) : Lib.hasPrefix (markW ++ x) markW = true := by
  unfold Lib.hasPrefix
  rw [List.isPrefixOf_iff_prefix]
  exact List.prefix_append _ _
theorem trim_mark (x : List UInt8) : Lib.trimPrefix (markW ++ x) markW = x := by
  unfold Lib.trimPrefix
  rw [has_mark, if_pos rfl, List.drop_left]

section
variable {ls cs : List ByteArray} {l k : Int}
/-- A marking line alone is read. -/
theorem read_line (hr : rightB ls cs = true) (h0 : 0 ≤ k) (h1 : k < 18446744073709551616) (hh : hasB ls.length cs.length l k = true) : readB ls cs (markW ++ textT ls cs l k) = ((l.toNat, k), [], 0) := by
  unfold readB
  rw [if_pos hr]
  unfold readF
  rw [cut_free _ (line_end hr l k)]
  simp only
  rw [has_mark, if_pos rfl, trim_mark, parse_text hr h0 h1 hh]
/-- A marked text is read. -/
theorem read_mark (hr : rightB ls cs = true) (h0 : 0 ≤ k) (h1 : k < 18446744073709551616) (hh : hasB ls.length cs.length l k = true) (t : List UInt8) : readB ls cs (markW ++ textT ls cs l k ++ ([13, 10] ++ t)) = ((l.toNat, k), t, 0) := by
  unfold readB
  rw [if_pos hr]
  unfold readF
  rw [show markW ++ textT ls cs l k ++ ([13, 10] ++ t) = (markW ++ textT ls cs l k) ++ 13 :: 10 :: t from rfl, cut_end _ t (line_end hr l k)]
  simp only
  rw [has_mark, if_pos rfl, trim_mark, parse_text hr h0 h1 hh]
/-- What begins with a blank is not marked. -/
theorem read_blank (hr : rightB ls cs = true) (s : List UInt8) : readB ls cs (32 :: s) = ((0, 0), [], 11) := by
  unfold readB
  rw [if_pos hr]
  unfold readF
  rw [if_neg]
  unfold Lib.cut
  split
  · show ¬ Lib.hasPrefix ((32 :: s).take _) markW = true
    cases (Lib.index (32 :: s) [13, 10]).toNat with
    | zero => simp [Lib.hasPrefix, markW]
    | succ n => simp [Lib.hasPrefix, markW, List.isPrefixOf]
  · simp [Lib.hasPrefix, markW, List.isPrefixOf]
/-- What is read is of few bits. -/
theorem read_bits (s : List UInt8) : 0 ≤ (readB ls cs s).1.2 ∧ (readB ls cs s).1.2 < 18446744073709551616 := by
  unfold readB
  split
  · rename_i hr
    unfold readF
    split
    · cases hp : parseF (idxF ls) (idxF cs) (Lib.trimPrefix (Lib.cut s [13, 10]).1 markW) with
      | none => simp
      | some p =>
        obtain ⟨L, c⟩ := p
        have := text_parse (right_comps hr) _ L c hp
        exact this.2.2
    · simp
  · simp
/-- What reading answers: 0, 2 or 11. -/
theorem read_code (s : List UInt8) : (readB ls cs s).2.2 = 0 ∨ ((readB ls cs s).2.2 = 11 ∧ readB ls cs s = ((0, 0), [], 11)) ∨ ((readB ls cs s).2.2 = 2 ∧ readB ls cs s = ((0, 0), [], 2)) := by
  unfold readB
  split
  · unfold readF
    split
    · cases parseF (idxF ls) (idxF cs) (Lib.trimPrefix (Lib.cut s [13, 10]).1 markW) with
      | none => exact .inr (.inl ⟨rfl, rfl⟩)
      | some p => exact .inl rfl
    · exact .inr (.inl ⟨rfl, rfl⟩)
  · exact .inr (.inr ⟨rfl, rfl⟩)
theorem line_yes (hr : rightB ls cs = true) (hh : hasB ls.length cs.length l k = true) : lineB ls cs l k = (markW ++ textT ls cs l k, 0) := by
  have hp : printB ls cs l k = (textT ls cs l k, 0) := by unfold printB; rw [hr, hh]; rfl
  unfold lineB
  rw [hp, if_pos rfl]
theorem mark_yes (hr : rightB ls cs = true) (hh : hasB ls.length cs.length l k = true) (t : List UInt8) : markB ls cs l k t = (markW ++ textT ls cs l k ++ ([13, 10] ++ t), 0) := by
  unfold markB
  rw [line_yes hr hh, if_pos rfl]
theorem line_no (h : ¬ (rightB ls cs = true ∧ hasB ls.length cs.length l k = true)) : (lineB ls cs l k).1 = [] ∧ (lineB ls cs l k).2 ≠ 0 ∧ (rightB ls cs && hasB ls.length cs.length l k) = false := by
  unfold lineB
  rcases print_cases ls cs l k with ⟨_, h1, h2⟩ | ⟨hp, h1, h2⟩ | ⟨hp, h1⟩
  · exact absurd ⟨h1, h2⟩ h
  · rw [hp, if_neg (by decide), h1, h2]; exact ⟨rfl, by decide, rfl⟩
  · rw [hp, if_neg (by decide), h1]; exact ⟨rfl, by decide, rfl⟩
end
/-- A join dominates what one of the two dominates. -/
theorem dom_join {la ca lb cb lx cx : Int} (h0 : 0 ≤ ca) (h1 : ca < 18446744073709551616) (h2 : 0 ≤ cb) (h3 : cb < 18446744073709551616) (h4 : 0 ≤ cx) (h5 : cx < 18446744073709551616)
    (h : domB la ca lx cx = true ∨ domB lb cb lx cx = true) : domB (maxI la lb) (bits .or .u64 ca cb) lx cx = true := by
  obtain ⟨a, rfl⟩ := Int.eq_ofNat_of_zero_le h0
  obtain ⟨b, rfl⟩ := Int.eq_ofNat_of_zero_le h2
  have hlt : a ||| b < 18446744073709551616 := Nat.or_lt_two_pow (n := 64) (by omega) (by omega)
  rw [u64_or_nat a b (by omega) (by omega), dom_iff (by omega) (by omega) h4 h5]
  rcases h with h | h
  · rw [dom_iff h0 h1 h4 h5] at h
    refine ⟨by unfold maxI; split <;> omega, fun i hi => ?_⟩
    have := h.2 i hi
    simp only [Int.toNat_natCast, Nat.testBit_or] at this ⊢
    rw [this]; rfl
  · rw [dom_iff h2 h3 h4 h5] at h
    refine ⟨by unfold maxI; split <;> omega, fun i hi => ?_⟩
    have := h.2 i hi
    simp only [Int.toNat_natCast, Nat.testBit_or] at this ⊢
    rw [this, Bool.or_true]
end Go.Proofs.YtkjiaklpffnhlaaDoor
