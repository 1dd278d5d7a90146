/-
  What the document's parsing asks of its bytes, way by way: plain facts.
-/
import Derived.Test.YtkjiaklpffnhlaaDoorRefP
import Derived.Test.YtkjiaklpffnhlaaDoorEql
namespace Go.Proofs.YtkjiaklpffnhlaaDoor
open Go.RowKit

theorem size_len (t : ByteArray) : t.size = t.data.toList.length := by rw [Array.length_toList]; rfl
theorem beq_lists (a b : ByteArray) : (a.toList == b.toList) = (a.data.toList == b.data.toList) := by rw [bytes_list, bytes_list]
theorem level_ways (ls : List ByteArray) (s nm : ByteArray) (v : Nat) (hnm : ls.getD v ByteArray.empty = nm) :
    (s.size < nm.size ∧ ¬ Hit ls s.data.toList v) ∨ (nm.size ≤ s.size ∧ ((s.extract 0 nm.size).toList == nm.toList) = false ∧ ¬ Hit ls s.data.toList v) ∨ (nm.size ≤ s.size ∧ ((s.extract 0 nm.size).toList == nm.toList) = true ∧ s.data.toList = nmL ls v ++ (s.extract nm.size s.size).data.toList) := by
  have hn : nmL ls v = nm.data.toList := by unfold nmL; rw [hnm]
  have hhit : Hit ls s.data.toList v → ∃ t, s.data.toList = nm.data.toList ++ t := by
    rintro (h | ⟨r, _, h⟩)
    · exact ⟨[], by rw [List.append_nil, ← hn]; exact h⟩
    · exact ⟨_, by rw [← hn]; exact h⟩
  have e1 : (s.extract 0 nm.size).data.toList = s.data.toList.take nm.size := by rw [Lib.extract_data]; simp
  have e2 : (s.extract nm.size s.size).data.toList = s.data.toList.drop nm.size := by
    rw [Lib.extract_data, List.take_of_length_le]
    rw [List.length_drop, size_len s]
    omega
  rw [beq_lists, e1, e2, hn]
  rcases Nat.lt_or_ge s.size nm.size with h | h
  · refine .inl ⟨h, fun hh => ?_⟩
    obtain ⟨t, ht⟩ := hhit hh
    rw [size_len, size_len, ht, List.length_append] at h
    omega
  · right
    cases hb : (s.data.toList.take nm.size == nm.data.toList) with
    | false =>
      refine .inl ⟨h, rfl, fun hh => ?_⟩
      obtain ⟨t, ht⟩ := hhit hh
      rw [ht, size_len nm, List.take_left] at hb
      simp at hb
    | true =>
      refine .inr ⟨h, rfl, ?_⟩
      rw [beq_iff_eq] at hb
      conv => lhs; rw [← List.take_append_drop nm.size s.data.toList, hb]
theorem rest_ways (ls : List ByteArray) (s T : ByteArray) (v : Nat) (h : s.data.toList = nmL ls v ++ T.data.toList) :
    ((T.toList == []) = true ∧ T.toList.isEmpty = true ∧ s.data.toList = nmL ls v) ∨ ((T.toList == []) = false ∧ T.toList.isEmpty = false ∧ T.size < 3 ∧ ¬ Hit ls s.data.toList v) ∨ ((T.toList == []) = false ∧ T.toList.isEmpty = false ∧ 3 ≤ T.size ∧ ((T.extract 0 2).toList == [47, 47]) = false ∧ ¬ Hit ls s.data.toList v)
    ∨ ((T.toList == []) = false ∧ T.toList.isEmpty = false ∧ 3 ≤ T.size ∧ ((T.extract 0 2).toList == [47, 47]) = true ∧ ∃ r, r ≠ [] ∧ s.data.toList = nmL ls v ++ 47 :: 47 :: r ∧ T.extract 1 T.size = ⟨(flat (splitB 47 r)).toArray⟩) := by
  have hhit : Hit ls s.data.toList v → T.data.toList = [] ∨ ∃ r, r ≠ [] ∧ T.data.toList = 47 :: 47 :: r := by
    rintro (h2 | ⟨r, hr, h2⟩)
    · left
      rw [h] at h2
      simpa using h2
    · right
      rw [h] at h2
      exact ⟨r, hr, List.append_cancel_left h2⟩
  have e1 : (T.extract 0 2).data.toList = T.data.toList.take 2 := by rw [Lib.extract_data]; simp
  have e2 : (T.extract 1 T.size).data.toList = T.data.toList.drop 1 := by
    rw [Lib.extract_data, List.take_of_length_le]
    rw [List.length_drop, size_len T]
    omega
  have e3 : ∀ r, T.data.toList = 47 :: 47 :: r → T.extract 1 T.data.toList.length = ⟨(flat (splitB 47 r)).toArray⟩ := fun r hr => by
    rw [← size_len T]
    apply ByteArray.ext
    apply Array.ext'
    rw [e2, hr, split_flat]
    rfl
  simp only [bytes_list, e1, size_len T]
  generalize T.data.toList = t at h hhit e3
  clear e1 e2
  cases t with
  | nil => exact .inl ⟨rfl, rfl, by rw [h, List.append_nil]⟩
  | cons a t =>
    right
    cases t with
    | nil =>
      refine .inl ⟨rfl, rfl, by simp, fun hh => ?_⟩
      rcases hhit hh with h2 | ⟨r, hr, h2⟩ <;> simp at h2
    | cons b t =>
      cases t with
      | nil =>
        refine .inl ⟨rfl, rfl, by simp, fun hh => ?_⟩
        rcases hhit hh with h2 | ⟨r, hr, h2⟩
        · simp at h2
        · simp at h2
          exact hr h2.2.2
      | cons c t =>
        right
        by_cases hab : a = 47 ∧ b = 47
        · obtain ⟨rfl, rfl⟩ := hab
          exact .inr ⟨rfl, rfl, by simp, rfl, c :: t, by simp, h, e3 _ rfl⟩
        · refine .inl ⟨rfl, rfl, by simp, ?_, fun hh => ?_⟩
          · rw [List.take_succ_cons, List.take_succ_cons, List.take_zero]
            rw [← Bool.not_eq_true, beq_iff_eq]
            simp only [List.cons.injEq, and_true]
            exact hab
          · rcases hhit hh with h2 | ⟨r, hr, h2⟩
            · simp at h2
            · simp only [List.cons.injEq] at h2
              exact hab ⟨h2.1, h2.2.1⟩
theorem goes_ways (R C : ByteArray) (rest nm : List UInt8) (hR : R = ⟨rest.toArray⟩) (hC : C.data.toList = 47 :: nm) :
    (R.size < C.size ∧ ¬ Goes rest nm) ∨ (C.size ≤ R.size ∧ ((R.extract 0 C.size).toList == C.toList) = false ∧ ¬ Goes rest nm) ∨ (C.size ≤ R.size ∧ ((R.extract 0 C.size).toList == C.toList) = true ∧ R.size = C.size ∧ Goes rest nm)
    ∨ (C.size < R.size ∧ ((R.extract 0 C.size).toList == C.toList) = true ∧ (∃ h : C.size < R.size, (((R[C.size]'h).toNat : Int) == 47) = true) ∧ Goes rest nm) ∨ (C.size < R.size ∧ ((R.extract 0 C.size).toList == C.toList) = true ∧ (∃ h : C.size < R.size, (((R[C.size]'h).toNat : Int) == 47) = false) ∧ ¬ Goes rest nm) := by
  have hRl : R.data.toList = rest := by rw [hR]
  have e1 : (R.extract 0 C.size).data.toList = rest.take (nm.length + 1) := by rw [Lib.extract_data, hRl, size_len C, hC]; simp
  have hRs : R.size = rest.length := by rw [size_len, hRl]
  have hCs : C.size = nm.length + 1 := by rw [size_len, hC]; simp
  have hget : ∀ h : C.size < R.size, rest[nm.length + 1]? = some (R[C.size]'h) := fun h => by
    have : rest[C.size]? = some (R[C.size]'h) := by
      subst hR
      rw [List.getElem?_eq_getElem (by omega)]
      rfl
    rw [← hCs]
    exact this
  rw [beq_lists, e1, hC]
  unfold Goes
  rcases Nat.lt_or_ge R.size C.size with h | h
  · exact .inl ⟨h, fun hg => by omega⟩
  · right
    cases hb : (rest.take (nm.length + 1) == 47 :: nm) with
    | false =>
      refine .inl ⟨h, rfl, fun hg => ?_⟩
      rw [hg.2.1] at hb
      simp at hb
    | true =>
      right
      rw [beq_iff_eq] at hb
      by_cases he : R.size = C.size
      · exact .inl ⟨h, rfl, he, by omega, hb, .inl (by omega)⟩
      · have hlt : C.size < R.size := by omega
        right
        have hg := hget hlt
        generalize hx : (R[C.size]'hlt) = x at hg
        by_cases h47 : x = 47
        · refine .inl ⟨hlt, rfl, ⟨hlt, by rw [hx, h47]; rfl⟩, by omega, hb, .inr (by rw [hg, h47])⟩
        · refine .inr ⟨hlt, rfl, ⟨hlt, ?_⟩, fun hgo => ?_⟩
          · rw [hx, ← Bool.not_eq_true, beq_iff_eq]
            intro e
            exact h47 (UInt8.toNat_inj.1 (by have : (47 : UInt8).toNat = 47 := rfl; omega))
          · rcases hgo.2.2 with h5 | h5
            · omega
            · rw [hg] at h5
              exact h47 (Option.some.inj h5)
theorem goes_tail {R C : ByteArray} {P : List (List UInt8)} {nm : List UInt8} (hR : R = ⟨(flat P).toArray⟩) (hC : C.data.toList = 47 :: nm) (hP : ∀ p ∈ P, Free p) (hn : Free nm) (hg : Goes (flat P) nm) : R.extract C.size R.size = ⟨(flat P.tail).toArray⟩ := by
  obtain ⟨P', rfl⟩ := (goes_iff hP hn).1 hg
  have hRl : R.data.toList = flat (nm :: P') := by rw [hR]
  apply ByteArray.ext
  apply Array.ext'
  rw [Lib.extract_data, hRl, List.take_of_length_le, size_len C, hC, List.tail_cons, flat_cons]
  · simp
  · rw [List.length_drop, size_len R, hRl]
    omega
end Go.Proofs.YtkjiaklpffnhlaaDoor
