/-
  A folded text taken apart line by line: plain facts, of no program.
-/
import Derived.Test.YteihmdjjofekoaaB64L
import Derived.Lib.CutLaws
namespace Go.Proofs.Yteihmdjjofekoaa

theorem end_index (r : List UInt8) : ∀ a : List UInt8, (∀ c ∈ a, c ≠ 13) → Lib.index (a ++ 13 :: 10 :: r) [13, 10] = a.length
  | [], _ => by simp [Lib.index, List.isPrefixOf]
  | b :: a, h => by
    have hb : b ≠ 13 := h b (by simp)
    have ih := end_index r a (fun c hc => h c (by simp [hc]))
    have hp : List.isPrefixOf [13, 10] (b :: (a ++ 13 :: 10 :: r)) = false := by simp [List.isPrefixOf] <;> (intro e; exact absurd e.symm hb)
    rw [List.cons_append, Lib.index, hp, ih]
    have : ¬ ((a.length : Int) == -1) = true := by simp <;> omega
    simp [this]
theorem end_cut (a r : List UInt8) (h : ∀ c ∈ a, c ≠ 13) : Lib.cut (a ++ 13 :: 10 :: r) [13, 10] = (a, r, true) := by
  unfold Lib.cut
  rw [end_index r a h, if_pos (by omega)]
  simp
theorem sub_index (sub : List UInt8) : ∀ (s : List UInt8) (i : Nat), Lib.index s sub = i → s = s.take i ++ (sub ++ s.drop (i + sub.length))
  | [], i, h => by
    unfold Lib.index at h
    cases sub with
    | nil => simp
    | cons b l => simp at h
  | b :: s, i, h => by
    unfold Lib.index at h
    split at h
    · rename_i hp
      obtain rfl : i = 0 := by omega
      obtain ⟨t, ht⟩ := List.isPrefixOf_iff_prefix.1 hp
      rw [← ht]
      simp
    · split at h
      · omega
      · obtain ⟨j, hj⟩ : ∃ j : Nat, Lib.index s sub = j := ⟨(i - 1 : Nat), by have := Lib.index_ge s sub; simp at *; omega⟩
        have ih := sub_index sub s j hj
        obtain rfl : i = j + 1 := by omega
        have e : j + 1 + sub.length = (j + sub.length) + 1 := by omega
        rw [e, List.take_succ_cons, List.drop_succ_cons, List.cons_append, ← ih]
/-- What a cut at an end comes to. -/
theorem cut_ways (t : List UInt8) : (Lib.cut t [13, 10]).2.2 = false ∨ ((Lib.cut t [13, 10]).2.2 = true ∧ t = (Lib.cut t [13, 10]).1 ++ 13 :: 10 :: (Lib.cut t [13, 10]).2.1) := by
  unfold Lib.cut
  by_cases h : 0 ≤ Lib.index t [13, 10]
  · right
    rw [if_pos h]
    refine ⟨rfl, ?_⟩
    obtain ⟨i, hi⟩ := Int.eq_ofNat_of_zero_le h
    have := sub_index [13, 10] t i hi
    rw [hi]
    simpa using this
  · left
    rw [if_neg h]
/-- Is a line as long as it must be? -/
def rightLen (x : List UInt8) (last : Bool) : Bool := if last then decide (1 ≤ x.length ∧ x.length ≤ 76) else decide (x.length = 76)
/-- The letters of a folded text, or none. -/
def linesF : Nat → List UInt8 → Option (List UInt8)
  | 0, t => if t = [] then some [] else none
  | f + 1, t => if t = [] then some [] else
    if (Lib.cut t [13, 10]).2.2 = true ∧ rightLen (Lib.cut t [13, 10]).1 (decide ((Lib.cut t [13, 10]).2.1 = [])) = true then
      (match linesF f (Lib.cut t [13, 10]).2.1 with
        | some r => some ((Lib.cut t [13, 10]).1 ++ r)
        | none => none)
    else none
theorem lines_nil (f : Nat) : linesF f [] = some [] := by
  cases f <;> simp [linesF]
theorem lines_fold_eq : ∀ (f : Nat) (t row : List UInt8), linesF f t = some row → foldB row = t
  | 0, t, row, h => by
    unfold linesF at h
    by_cases e : t = []
    · rw [if_pos e] at h; cases h; rw [fold_nil, e]
    · rw [if_neg e] at h; cases h
  | f + 1, t, row, h => by
    unfold linesF at h
    by_cases e : t = []
    · rw [if_pos e] at h; cases h; rw [fold_nil, e]
    · rw [if_neg e] at h
      rcases cut_ways t with hc | ⟨hc, ht⟩
      · rw [if_neg (by rw [hc]; simp)] at h; cases h
      · generalize Lib.cut t [13, 10] = cu at h hc ht
        obtain ⟨x, y, z⟩ := cu
        simp only at h hc ht
        by_cases hr : z = true ∧ rightLen x (decide (y = [])) = true
        · rw [if_pos hr] at h
          cases hl : linesF f y with
          | none => rw [hl] at h; cases h
          | some r =>
            rw [hl] at h
            simp only [Option.some.injEq] at h
            have ih := lines_fold_eq f y r hl
            have hrl := hr.2
            unfold rightLen at hrl
            by_cases hy : y = []
            · subst hy
              have hr0 : r = [] := by rw [lines_nil] at hl; cases hl; rfl
              simp only [decide_true, if_true, decide_eq_true_eq] at hrl
              rw [← h, hr0, List.append_nil, fold_cons (by intro e; rw [e] at hrl; simp at hrl), List.take_of_length_le hrl.2, List.drop_eq_nil_of_le hrl.2, fold_nil, ht]
            · simp only [hy, decide_false, Bool.false_eq_true, if_false, decide_eq_true_eq] at hrl
              rw [← h, fold_cons (by intro e; rw [List.append_eq_nil_iff] at e; rw [e.1] at hrl; simp at hrl), List.take_left' hrl, List.drop_left' hrl, ih, ht]
        · rw [if_neg hr] at h; cases h
theorem fold_lines_eq : ∀ (f : Nat) (l : List UInt8), (∀ c ∈ l, c ≠ 13) → (foldB l).length ≤ f → linesF f (foldB l) = some l
  | 0, l, _, hf => by
    have : l = [] := by
      by_cases e : l = []
      · exact e
      · rw [fold_cons e] at hf; simp at hf
    subst this
    rw [fold_nil, lines_nil]
  | f + 1, l, hl, hf => by
    by_cases e : l = []
    · subst e
      rw [fold_nil, lines_nil]
    · have hp : 0 < l.length := List.length_pos_iff.2 e
      have hc := fold_cons e
      have h13 : ∀ c ∈ l.take 76, c ≠ 13 := fun c hc => hl c (List.mem_of_mem_take hc)
      rw [hc] at hf ⊢
      rw [linesF, if_neg (by simp), end_cut _ _ h13]
      simp only
      have ih := fold_lines_eq f (l.drop 76) (fun c hc => hl c (List.mem_of_mem_drop hc)) (by simp only [List.length_append, List.length_cons] at hf; omega)
      have hr : rightLen (l.take 76) (decide (foldB (l.drop 76) = [])) = true := by
        unfold rightLen
        by_cases hd : l.drop 76 = []
        · rw [hd, fold_nil]
          have := List.drop_eq_nil_iff.1 hd
          simp only [decide_true, if_true, decide_eq_true_eq, List.length_take]
          omega
        · have hn : foldB (l.drop 76) ≠ [] := by rw [fold_cons hd]; simp
          have : ¬ l.length ≤ 76 := fun h => hd (List.drop_eq_nil_iff.2 h)
          simp only [hn, decide_false, Bool.false_eq_true, if_false, decide_eq_true_eq, List.length_take]
          omega
      simp only [hr, and_self, if_true, ih]
      simp
/-- THE BYTES OF A FOLDED TEXT, line by line. -/
theorem unfold_lines (t : List UInt8) : unfoldB t = (match linesF t.length t with
    | some row => decB row
    | none => none) := by
  cases hu : unfoldB t with
  | some s =>
    have hf := fold_unfold hu
    have := fold_lines_eq t.length (encB s) (fun c hc => (ok_end (enc_ok s c hc)).1) (by rw [hf]; exact Nat.le_refl _)
    rw [hf] at this
    rw [this]
    exact (dec_enc s).symm
  | none =>
    cases hl : linesF t.length t with
    | none => rfl
    | some row =>
      have hf := lines_fold_eq _ t row hl
      simp only
      cases hd : decB row with
      | none => rfl
      | some s =>
        have he := enc_dec row s hd
        rw [← he] at hf
        rw [← hf, unfold_fold] at hu
        cases hu
end Go.Proofs.Yteihmdjjofekoaa
