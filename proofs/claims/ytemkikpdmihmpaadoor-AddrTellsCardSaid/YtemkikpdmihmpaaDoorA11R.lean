/-
  The loop over signs, step by step. Plain facts: no program.
-/
import Derived.Test.YtemkikpdmihmpaaDoorA11Q
namespace Go.Proofs.YtemkikpdmihmpaaDoor

theorem hear_both : ∀ (s acc : TextA) (say : Bool) (w r : TextA), hearA say acc s = some (w, r) → w.length + r.length ≤ acc.length + s.length
  | [], acc, say, w, r, h => by cases say <;> cases h
  | c :: s, acc, true, w, r, h => by
    have := hear_both s _ false w r h
    simp at this ⊢
    omega
  | c :: s, acc, false, w, r, h => by
    unfold hearA at h
    split at h
    · have := hear_both s _ true w r h
      simp at this ⊢
      omega
    · split at h
      · cases h
        simp
      · have := hear_both s _ false w r h
        simp at this ⊢
        omega
/-- All signs' lengths, and one for each. -/
def totA : List SignA → Nat
  | [] => 0
  | t :: ts => t.2.length + 1 + totA ts
theorem tot_drop : ∀ (ts : List SignA) (i : Nat) (h : i < ts.length), totA (ts.drop i) = ts[i].2.length + 1 + totA (ts.drop (i + 1))
  | t :: ts, 0, _ => rfl
  | t :: ts, i + 1, h => tot_drop ts i (by simpa using h)
theorem tot_le : ∀ (ts : List SignA) (i : Nat), totA (ts.drop i) ≤ totA ts
  | [], i => by rw [List.drop_nil]; exact Nat.le_refl _
  | t :: ts, 0 => Nat.le_refl _
  | t :: ts, i + 1 => by
    have := tot_le ts i
    show totA (ts.drop i) ≤ t.2.length + 1 + totA ts
    omega
theorem len_tot : ∀ ts : List SignA, ts.length ≤ totA ts
  | [] => Nat.le_refl _
  | t :: ts => by
    have := len_tot ts
    show ts.length + 1 ≤ t.2.length + 1 + totA ts
    omega
theorem step_tot {s u : TextA} {t : SignA} (h : stepA s = some (t, u)) : t.2.length + 1 + 2 * u.length ≤ 2 * s.length := by
  cases s with
  | nil => cases h
  | cons c r =>
    rw [step_cons] at h
    split at h
    · cases h
      simp
      omega
    · split at h
      · cases hq : hearA false [] r with
        | none => rw [hq] at h; cases h
        | some x =>
          obtain ⟨x1, x2⟩ := x
          rw [hq] at h
          cases h
          have h1 := hear_both _ _ _ _ _ hq
          have h2 := hear_len _ _ _ _ _ hq
          simp at h1 ⊢
          omega
      · split at h
        · rename_i hc
          cases h
          have hs := congrArg List.length (List.takeWhile_append_dropWhile (p := rByte) (l := c :: r))
          rw [List.length_append] at hs
          have hd : ((c :: r).dropWhile rByte).length ≤ r.length := by
            rw [List.dropWhile_cons, if_pos hc]
            exact drop_len rByte r
          simp at hs ⊢
          omega
        · cases h
theorem sg_tot : ∀ (n : Nat) (s : TextA) (ts : List SignA), sgN n s = some ts → totA ts ≤ 2 * s.length
  | 0, _, _, h => by cases h
  | n + 1, s, ts, h => by
    rw [sgN] at h
    have hs := skip_le s
    cases hk : skipA s with
    | nil =>
      rw [hk] at h
      cases h
      exact Nat.zero_le _
    | cons c r =>
      rw [hk] at h hs
      simp only at h
      cases hq : stepA (c :: r) with
      | none => rw [hq] at h; cases h
      | some x =>
        obtain ⟨t, u⟩ := x
        rw [hq] at h
        simp only at h
        cases hu : sgN n u with
        | none => rw [hu] at h; cases h
        | some ts2 =>
          rw [hu] at h
          simp only [Option.map_some, Option.some.injEq] at h
          subst h
          have h1 := sg_tot n u ts2 hu
          have h2 := step_tot hq
          show t.2.length + 1 + totA ts2 ≤ _
          omega
/-- What an address's words leave. -/
def addrW (k : Nat) (nm : TextA) (rest : List SignA) : Option (AddrA × List SignA) :=
  if k = 0 then
    match rest with
    | [] => none
    | t :: r => if t.1 = 114 then (mailA t.2).map (fun a => (a, r)) else none
  else
    match rest with
    | t1 :: t2 :: t3 :: r => if t1.1 = 60 ∧ t2.1 = 114 ∧ t3.1 = 62 then
        match mailA t2.2 with
        | none => none
        | some b => if rightA (nm, b.2.1, b.2.2) = true then some ((nm, b.2.1, b.2.2), r) else none
      else none
    | _ => none
theorem addr_w (ts : List SignA) : addrS ts = addrW (wordsS 0 [] ts).1 (wordsS 0 [] ts).2.1 (wordsS 0 [] ts).2.2 := rfl
theorem drop_at (ts : List SignA) (i : Nat) (h : i < ts.length) : ts.drop i = ts[i] :: ts.drop (i + 1) := List.drop_eq_getElem_cons h

/-- What stands at the head of the outer loop, and of the inner one. -/
def GSt (ts : List SignA) (L : Option (List AddrA)) (i : Nat) (acc : List AddrA) : Prop := acc.length ≤ i ∧ i ≤ ts.length ∧ ∃ m, ts.length - i < m ∧ listS m acc (ts.drop i) = L
def WSt (ts : List SignA) (i j : Nat) (nm : TextA) : Prop := i ≤ j ∧ j ≤ ts.length ∧ wordsS (j - i) nm (ts.drop j) = wordsS 0 [] (ts.drop i) ∧ nm.length + totA (ts.drop j) ≤ totA ts
section
variable {ts : List SignA} {L : Option (List AddrA)} {i j : Nat} {acc : List AddrA} {nm : TextA} {a : AddrA}
theorem gst_start : GSt ts (listS (ts.length + 1) [] ts) 0 [] := ⟨Nat.le_refl _, Nat.zero_le _, ts.length + 1, by omega, rfl⟩
theorem gst_none (h : GSt ts L i acc) (ha : addrS (ts.drop i) = none) : L = none := by
  obtain ⟨_, _, m, hm, h⟩ := h
  obtain ⟨m, rfl⟩ : ∃ k, m = k + 1 := ⟨m - 1, by omega⟩
  rw [← h, listS, ha]
theorem gst_end (h : GSt ts L i acc) (ha : addrS (ts.drop i) = some (a, ts.drop j)) (hj : ¬ j < ts.length) : L = some (acc ++ [a]) := by
  obtain ⟨_, _, m, hm, h⟩ := h
  obtain ⟨m, rfl⟩ : ∃ k, m = k + 1 := ⟨m - 1, by omega⟩
  rw [← h, listS, ha, List.drop_of_length_le (by omega)]
theorem gst_sep (h : GSt ts L i acc) (ha : addrS (ts.drop i) = some (a, ts.drop j)) (hj : j < ts.length) (h44 : ts[j].1 ≠ 44) : L = none := by
  obtain ⟨_, _, m, hm, h⟩ := h
  obtain ⟨m, rfl⟩ : ∃ k, m = k + 1 := ⟨m - 1, by omega⟩
  rw [← h, listS, ha, drop_at ts j hj]
  simp only
  rw [if_neg h44]
theorem gst_next (h : GSt ts L i acc) (hij : i < j) (ha : addrS (ts.drop i) = some (a, ts.drop j)) (hj : j < ts.length) (h44 : ts[j].1 = 44) : GSt ts L (j + 1) (acc ++ [a]) := by
  obtain ⟨h1, h2, m, hm, h⟩ := h
  obtain ⟨m, rfl⟩ : ∃ k, m = k + 1 := ⟨m - 1, by omega⟩
  refine ⟨by simp; omega, by omega, m, by omega, ?_⟩
  rw [← h, listS, ha, drop_at ts j hj]
  simp only
  rw [if_pos h44]
theorem wst_start (hi : i ≤ ts.length) : WSt ts i i [] := ⟨Nat.le_refl _, hi, by rw [Nat.sub_self], by have := tot_le ts i; simp; omega⟩
theorem wst_word (h : WSt ts i j nm) (hj : j < ts.length) (hw : isWordA ts[j] = true) : WSt ts i (j + 1) ((if 0 < j - i then nm ++ [32] else nm) ++ ts[j].2) := by
  obtain ⟨h1, h2, h3, h4⟩ := h
  refine ⟨by omega, by omega, ?_, ?_⟩
  · rw [← h3, drop_at ts j hj, wordsS, if_pos hw, show j + 1 - i = j - i + 1 by omega]
  · rw [tot_drop ts j hj] at h4
    rw [List.length_append]
    split
    · rw [List.length_append]
      simp
      omega
    · omega
theorem wst_stop (h : WSt ts i j nm) (hs : ∀ hj : j < ts.length, isWordA ts[j] = false) : addrS (ts.drop i) = addrW (j - i) nm (ts.drop j) := by
  obtain ⟨h1, h2, h3, h4⟩ := h
  rw [addr_w, ← h3]
  by_cases hj : j < ts.length
  · rw [drop_at ts j hj, words_stop _ _ _ _ (hs hj)]
  · rw [List.drop_of_length_le (by omega), wordsS]
theorem aw_end (hj : ¬ j < ts.length) : addrW 0 nm (ts.drop j) = none := by
  rw [List.drop_of_length_le (by omega)]
  rfl
theorem aw_not (hj : j < ts.length) (h : ts[j].1 ≠ 114) : addrW 0 nm (ts.drop j) = none := by
  rw [drop_at ts j hj]
  unfold addrW
  rw [if_pos rfl]
  exact if_neg h
theorem aw_mail (hj : j < ts.length) (h : ts[j].1 = 114) : addrW 0 nm (ts.drop j) = (mailA ts[j].2).map (fun a => (a, ts.drop (j + 1))) := by
  rw [drop_at ts j hj]
  unfold addrW
  rw [if_pos rfl]
  exact if_pos h
theorem aw_short {k : Nat} (hk : k ≠ 0) (hj : ¬ j + 2 < ts.length) : addrW k nm (ts.drop j) = none := by
  unfold addrW
  rw [if_neg hk]
  have hl : (ts.drop j).length ≤ 2 := by
    rw [List.length_drop]
    omega
  split
  · rename_i e
    rw [e] at hl
    simp at hl
  · rfl
theorem aw_three {k : Nat} (hk : k ≠ 0) (hj : j + 2 < ts.length) : addrW k nm (ts.drop j) = if ts[j].1 = 60 ∧ ts[j + 1].1 = 114 ∧ ts[j + 2].1 = 62 then
        match mailA ts[j + 1].2 with
        | none => none
        | some b => if rightA (nm, b.2.1, b.2.2) = true then some ((nm, b.2.1, b.2.2), ts.drop (j + 3)) else none
      else none := by
  rw [drop_at ts j (by omega), drop_at ts (j + 1) (by omega), drop_at ts (j + 2) hj]
  unfold addrW
  rw [if_neg hk]
end
end Go.Proofs.YtemkikpdmihmpaaDoor
