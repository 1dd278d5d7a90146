/-
  How long printed headers are, and how short what was parsed is.
-/
import Derived.Test.YtneihcdeflfahaaDoorHdF
import Derived.Test.YtneihcdeflfahaaDoorHdI
import Derived.Test.YtneihcdeflfahaaDoorFew10
namespace Go.Proofs.YtneihcdeflfahaaDoor

def sizeF (l : List FieldH) : Nat := (l.map fun f => 1 + f.1.length + f.2.length).sum
theorem size_cons (f : FieldH) (l : List FieldH) : sizeF (f :: l) = 1 + f.1.length + f.2.length + sizeF l := rfl
theorem size_mem : ∀ (l : List FieldH) (f : FieldH), f ∈ l → 1 + f.1.length + f.2.length ≤ sizeF l
  | g :: l, f, h => by
    rw [size_cons]
    rcases List.mem_cons.1 h with rfl | h
    · omega
    · have := size_mem l f h
      omega
theorem size_small {l : List FieldH} {n : Nat} (h : sizeF l ≤ n) : SmallF n l := fun f hf => by
  have := size_mem l f hf
  omega
theorem size_costs : ∀ l : List FieldH, SmallF 8000 l → sizeF l = costsF l
  | [], _ => rfl
  | f :: l, h => by
    have ih := size_costs l (fun g hg => h g (List.mem_cons_of_mem _ hg))
    have hf := h f (List.mem_cons_self ..)
    have e : costsF (f :: l) = costF f + costsF l := rfl
    rw [size_cons, e, ih]
    unfold costF
    omega
theorem FewF.size {l : List FieldH} (h : FewF l) : sizeF l ≤ 8000 := by
  rw [size_costs l h.small]
  exact h.2
theorem field_of_len {w : TextH} {f : FieldH} (h : fieldH w = some f) : 1 + f.1.length + f.2.length ≤ w.length := by
  unfold fieldH at h
  by_cases h58 : (58 : UInt8) ∈ w
  · rw [if_pos h58] at h
    obtain rfl := Option.some.inj h
    have e := congrArg List.length (List.takeWhile_append_dropWhile (p := (· != (58 : UInt8))) (l := w))
    rw [List.length_append] at e
    have h1 := trim_len ((w.dropWhile (· != 58)).drop 1)
    rw [List.length_drop] at h1
    have h2 : 0 < (w.dropWhile (· != 58)).length := by
      rcases Nat.eq_zero_or_pos (w.dropWhile (· != 58)).length with h0 | h0
      · have h3 := List.eq_nil_of_length_eq_zero h0
        have h5 := List.takeWhile_append_dropWhile (p := (· != (58 : UInt8))) (l := w)
        rw [h3, List.append_nil] at h5
        have := mem_takeH (p := (· != (58 : UInt8))) w 58 (by rw [h5]; exact h58)
        simp at this
      · exact h0
    show 1 + (w.takeWhile (· != 58)).length + (trimH ((w.dropWhile (· != 58)).drop 1)).length ≤ w.length
    omega
  · rw [if_neg h58] at h
    cases h
theorem fields_size : ∀ (ws : List TextH) (l : List FieldH), fieldsH ws = some l → sizeF l ≤ ws.flatten.length
  | [], l, h => by
    obtain rfl := Option.some.inj h
    exact Nat.le_refl _
  | w :: ws, l, h => by
    rw [fieldsH] at h
    cases hw : fieldH w with
    | none => rw [hw] at h; cases h
    | some f =>
      rw [hw] at h
      have h2 : (if rightB f = true then (fieldsH ws).map (f :: ·) else none) = some l := h
      by_cases hr : rightB f = true
      · rw [if_pos hr] at h2
        cases hws : fieldsH ws with
        | none => rw [hws] at h2; cases h2
        | some l2 =>
          rw [hws] at h2
          obtain rfl := Option.some.inj h2
          have ih := fields_size ws l2 hws
          have := field_of_len hw
          rw [size_cons, List.flatten_cons, List.length_append]
          omega
      · rw [if_neg hr] at h2
        cases h2
theorem join_flat : ∀ ls : List TextH, (joinH ls).flatten = ls.flatten
  | [] => rfl
  | l :: ls => by
    have ih := join_flat ls
    rw [joinH]
    show (if goesH (ls.headD []) = true then (l ++ (joinH ls).headD []) :: (joinH ls).drop 1 else l :: joinH ls).flatten = _
    split
    · rw [List.flatten_cons, List.flatten_cons, ← ih]
      cases joinH ls with
      | nil => simp
      | cons a b => simp
    · rw [List.flatten_cons, ih, List.flatten_cons]
theorem parse_size {s : TextH} {l : List FieldH} {r : TextH} (h : parseH s = ((l, r), 0)) : sizeF l ≤ s.length := by
  rw [parse_plain] at h
  rcases cut_top s with ⟨_, h2⟩ | ⟨hd, rest, ls, _, _, h3, _, _, h6, _⟩
  · rw [h2] at h
    have := congrArg Prod.snd h
    cases this
  · rw [h3] at h
    have h4 : (if longH ls = true then ((([], []), 3) : (List FieldH × TextH) × Int) else match fieldsH (joinH ls) with
      | none => (([], []), 2)
      | some l => if 64 < l.length then (([], []), 3) else ((l, rest), 0)) = ((l, r), 0) := h
    by_cases hl : longH ls = true
    · rw [if_pos hl] at h4
      have := congrArg Prod.snd h4
      cases this
    · rw [if_neg hl] at h4
      cases hf : fieldsH (joinH ls) with
      | none =>
        rw [hf] at h4
        have := congrArg Prod.snd h4
        cases this
      | some l2 =>
        rw [hf] at h4
        have h5 : (if 64 < l2.length then ((([], []), 3) : (List FieldH × TextH) × Int) else ((l2, rest), 0)) = ((l, r), 0) := h4
        by_cases h64 : 64 < l2.length
        · rw [if_pos h64] at h5
          have := congrArg Prod.snd h5
          cases this
        · rw [if_neg h64] at h5
          have h7 : l2 = l := congrArg (fun x => x.1.1) h5
          rw [← h7]
          have := fields_size _ _ hf
          rw [join_flat] at this
          omega
theorem head_size : ∀ l : List FieldH, (∀ f ∈ l, f.1.length ≤ 900) → (endH (l.flatMap linesH)).length ≤ 6 * sizeF l
  | [], _ => by simp [endH]
  | f :: l, h => by
    have ih := head_size l (fun g hg => h g (List.mem_cons_of_mem _ hg))
    have h3 := field_len f (h f (List.mem_cons_self ..))
    rw [List.flatMap_cons, end_append, List.length_append, size_cons]
    omega
theorem print_size {l : List FieldH} : (printH l).1.length ≤ 6 * sizeF l + 2 := by
  unfold printH
  by_cases h1 : l.all rightB = false
  · rw [if_pos h1]
    simp
  · rw [if_neg h1]
    by_cases h2 : 64 < l.length
    · rw [if_pos h2]
      simp
    · rw [if_neg h2]
      by_cases h3 : longH (l.flatMap linesH) = true
      · rw [if_pos h3]
        simp
      · rw [if_neg h3]
        have hr : ∀ f ∈ l, f.1.length ≤ 900 := fun f hf => by
          have := ((right_iff f).1 (List.all_eq_true.1 ((Bool.not_eq_false _).mp h1) f hf)).n64
          omega
        have := head_size l hr
        show (headerH l).length ≤ _
        unfold headerH
        rw [List.length_append]
        simp
        omega
theorem print_none {l : List FieldH} (h : (printH l).2 ≠ 0) : (printH l).1 = [] := by
  unfold printH at h ⊢
  by_cases h1 : l.all rightB = false
  · rw [if_pos h1]
  · rw [if_neg h1] at h ⊢
    by_cases h2 : 64 < l.length
    · rw [if_pos h2]
    · rw [if_neg h2] at h ⊢
      by_cases h3 : longH (l.flatMap linesH) = true
      · rw [if_pos h3]
      · rw [if_neg h3] at h
        exact absurd rfl h
end Go.Proofs.YtneihcdeflfahaaDoor
