/-
  Signs first, then what they say: the document's way of reading a list, and that it is the same. Plain facts: no program.
-/
import Derived.Test.YtemkikpdmihmpaaDoorA11B
namespace Go.Proofs.YtemkikpdmihmpaaDoor

abbrev SignA := UInt8 × TextA
def rByte (c : UInt8) : Bool := atomC c || (c == 46 || c == 64)
def markA (c : UInt8) : Prop := c = 44 ∨ c = 60 ∨ c = 62
instance (c : UInt8) : Decidable (markA c) := inferInstanceAs (Decidable (_ ∨ _))
/-- A text's first sign, and what stands behind it. -/
def stepA : TextA → Option (SignA × TextA)
  | [] => none
  | c :: r => if markA c then some ((c, []), r) else if c = 34 then (hearA false [] r).map (fun x => ((113, x.1), x.2)) else if rByte c = true then some ((114, (c :: r).takeWhile rByte), (c :: r).dropWhile rByte) else none
theorem step_cons (c : UInt8) (r : TextA) : stepA (c :: r) = if markA c then some ((c, []), r) else if c = 34 then (hearA false [] r).map (fun x => ((113, x.1), x.2)) else if rByte c = true then some ((114, (c :: r).takeWhile rByte), (c :: r).dropWhile rByte) else none := rfl
theorem step_len {s u : TextA} {t : SignA} (h : stepA s = some (t, u)) : u.length < s.length := by
  cases s with
  | nil => cases h
  | cons c r =>
    rw [step_cons] at h
    split at h
    · cases h
      simp
    · split at h
      · cases hq : hearA false [] r with
        | none => rw [hq] at h; cases h
        | some x =>
          rw [hq] at h
          cases h
          have := hear_len _ _ _ _ _ hq
          simp
          omega
      · split at h
        · rename_i hc
          cases h
          rw [List.dropWhile_cons, if_pos hc]
          have := drop_len rByte r
          simp
          omega
        · cases h
def sgN : Nat → TextA → Option (List SignA)
  | 0, _ => none
  | n + 1, s => match skipA s with
    | [] => some []
    | c :: r => match stepA (c :: r) with
      | none => none
      | some (t, u) => (sgN n u).map (t :: ·)
theorem sg_fuel : ∀ (n m : Nat) (s : TextA), s.length < n → s.length < m → sgN n s = sgN m s
  | 0, _, _, h, _ => absurd h (Nat.not_lt_zero _)
  | _ + 1, 0, _, _, h => absurd h (Nat.not_lt_zero _)
  | n + 1, m + 1, s, h1, h2 => by
    rw [sgN, sgN]
    have hs := skip_le s
    cases hk : skipA s with
    | nil => rfl
    | cons c r =>
      rw [hk] at hs
      simp only
      cases hq : stepA (c :: r) with
      | none => rfl
      | some x =>
        obtain ⟨t, u⟩ := x
        have := step_len hq
        simp only
        rw [sg_fuel n m u (by omega) (by omega)]
def sgA (s : TextA) : Option (List SignA) := sgN (s.length + 1) s
theorem skip_idem : ∀ (n : Nat) (s : TextA), s.length ≤ n → skipA (skipA s) = skipA s
  | _, [], _ => rfl
  | 0, c :: r, h => by simp at h
  | n + 1, c :: r, h => by
    simp at h
    by_cases h1 : c = 32 ∨ c = 9
    · rw [skip_blank h1]
      exact skip_idem n r h
    · by_cases h2 : c = 40
      · subst h2
        cases hc : cmtA r with
        | none =>
          rw [skip_bad hc, skip_bad hc]
        | some t =>
          rw [skip_cmt hc]
          have h3 := cmt_len r t hc
          exact skip_idem n t (by omega)
      · rw [skip_else h1 h2, skip_else h1 h2]
theorem skip_skip (s : TextA) : skipA (skipA s) = skipA s := skip_idem s.length s (Nat.le_refl _)
theorem sg_skip (s : TextA) : sgA (skipA s) = sgA s := by
  unfold sgA
  rw [sg_fuel _ (s.length + 1) (skipA s) (Nat.lt_succ_self _) (by have := skip_le s; omega), sgN, sgN, skip_skip]
theorem sg_end {s : TextA} (h : skipA s = []) : sgA s = some [] := by
  unfold sgA
  rw [sgN, h]
theorem sg_step {s : TextA} {c : UInt8} {r : TextA} (h : skipA s = c :: r) : sgA s = match stepA (c :: r) with | none => none | some (t, u) => (sgA u).map (t :: ·) := by
  have hs := skip_le s
  rw [h] at hs
  unfold sgA
  rw [sgN, h]
  cases hq : stepA (c :: r) with
  | none => simp only [hq]
  | some x =>
    obtain ⟨t, u⟩ := x
    have := step_len hq
    simp only [hq]
    rw [sg_fuel s.length (u.length + 1) u (by omega) (by omega)]
theorem sg_nil {s : TextA} (h : sgA s = some []) : skipA s = [] := by
  cases hk : skipA s with
  | nil => rfl
  | cons c r =>
    rw [sg_step hk] at h
    cases hq : stepA (c :: r) with
    | none => rw [hq] at h; cases h
    | some x =>
      rw [hq] at h
      simp only at h
      cases hu : sgA x.2 with
      | none => rw [hu] at h; cases h
      | some ts => rw [hu] at h; cases h
theorem sg_head {s : TextA} {t : SignA} {ts : List SignA} (h : sgA s = some (t :: ts)) : ∃ u, stepA (skipA s) = some (t, u) ∧ sgA u = some ts := by
  cases hk : skipA s with
  | nil =>
    rw [sg_end hk] at h
    cases h
  | cons c r =>
    rw [sg_step hk] at h
    cases hq : stepA (c :: r) with
    | none => rw [hq] at h; cases h
    | some x =>
      obtain ⟨t2, u⟩ := x
      rw [hq] at h
      simp only at h
      cases hu : sgA u with
      | none => rw [hu] at h; cases h
      | some ts2 =>
        rw [hu] at h
        simp only [Option.map_some, Option.some.injEq, List.cons.injEq] at h
        obtain ⟨rfl, rfl⟩ := h
        exact ⟨u, rfl, hu⟩
theorem sg_take {s : TextA} {t : SignA} {u : TextA} (hk : skipA s = s) (h : stepA s = some (t, u)) : sgA s = (sgA u).map (t :: ·) := by
  cases s with
  | nil => cases h
  | cons c r => rw [sg_step hk, h]
theorem step_mark {s : TextA} {c : UInt8} {q u : TextA} (h : stepA s = some ((c, q), u)) (hc : markA c) : s = c :: u := by
  cases s with
  | nil => cases h
  | cons d r =>
    rw [step_cons] at h
    split at h
    · simp only [Option.some.injEq, Prod.mk.injEq] at h
      obtain ⟨⟨rfl, _⟩, rfl⟩ := h
      rfl
    · split at h
      · cases hq : hearA false [] r with
        | none => rw [hq] at h; cases h
        | some x =>
          rw [hq] at h
          simp only [Option.map_some, Option.some.injEq, Prod.mk.injEq] at h
          obtain ⟨⟨rfl, _⟩, _⟩ := h
          exact absurd hc (by decide)
      · split at h
        · simp only [Option.some.injEq, Prod.mk.injEq] at h
          obtain ⟨⟨rfl, _⟩, _⟩ := h
          exact absurd hc (by decide)
        · cases h
theorem mark_step {c : UInt8} (hc : markA c) (r : TextA) : stepA (c :: r) = some ((c, []), r) := by
  rw [step_cons, if_pos hc]
theorem mark_skip {c : UInt8} (hc : markA c) (r : TextA) : skipA (c :: r) = c :: r := by
  rcases hc with rfl | rfl | rfl <;> exact skip_else (by decide) (by decide) r
theorem mark_sg {c : UInt8} (hc : markA c) (r : TextA) : sgA (c :: r) = (sgA r).map ((c, []) :: ·) := sg_take (mark_skip hc r) (mark_step hc r)
theorem r_not {c : UInt8} (h : rByte c = true) : ¬ markA c ∧ c ≠ 34 ∧ ¬ (c = 32 ∨ c = 9) ∧ c ≠ 40 := by
  refine ⟨?_, ?_, ?_, ?_⟩
  · rintro (rfl | rfl | rfl) <;> exact absurd h (by decide)
  · rintro rfl
    exact absurd h (by decide)
  · rintro (rfl | rfl) <;> exact absurd h (by decide)
  · rintro rfl
    exact absurd h (by decide)
theorem step_run {s : TextA} {q u : TextA} (h : stepA s = some ((114, q), u)) : q = s.takeWhile rByte ∧ u = s.dropWhile rByte ∧ ∃ c r, s = c :: r ∧ rByte c = true := by
  cases s with
  | nil => cases h
  | cons d r =>
    rw [step_cons] at h
    split at h
    · rename_i hm
      simp only [Option.some.injEq, Prod.mk.injEq] at h
      obtain ⟨⟨rfl, _⟩, _⟩ := h
      exact absurd hm (by decide)
    · split at h
      · cases hq : hearA false [] r with
        | none => rw [hq] at h; cases h
        | some x =>
          rw [hq] at h
          simp only [Option.map_some, Option.some.injEq, Prod.mk.injEq] at h
          obtain ⟨⟨h1, _⟩, _⟩ := h
          exact absurd h1 (by decide)
      · split at h
        · rename_i hr
          simp only [Option.some.injEq, Prod.mk.injEq, true_and] at h
          exact ⟨h.1.symm, h.2.symm, d, r, rfl, hr⟩
        · cases h
theorem run_step {c : UInt8} {r : TextA} (h : rByte c = true) : stepA (c :: r) = some ((114, (c :: r).takeWhile rByte), (c :: r).dropWhile rByte) := by
  obtain ⟨h1, h2, _⟩ := r_not h
  rw [step_cons, if_neg h1, if_neg h2, if_pos h]
theorem run_skip {c : UInt8} {r : TextA} (h : rByte c = true) : skipA (c :: r) = c :: r := by
  obtain ⟨_, _, h3, h4⟩ := r_not h
  exact skip_else h3 h4 r
/-- What doesn't begin with a byte of atoms, dots and @. -/
def noR (s : TextA) : Prop := ∀ c r, s = c :: r → rByte c = false
theorem drop_noR (s : TextA) : noR (s.dropWhile rByte) := fun c r h => by
  have := List.head?_dropWhile_not (p := rByte) (l := s)
  rw [h] at this
  exact this
theorem run_whole {l r : TextA} (hl : l.all rByte = true) (hr : noR r) : (l ++ r).takeWhile rByte = l ∧ (l ++ r).dropWhile rByte = r := by
  cases r with
  | nil =>
    rw [List.append_nil]
    exact take_end l hl
  | cons c t => exact take_to c t (hr c t rfl) l hl
theorem noR_skip {s : TextA} (h : ∀ c r, skipA s = c :: r → rByte c = false) : noR s := fun c r e => by
  cases hc : rByte c with
  | false => rfl
  | true =>
    have h2 := h c r (by rw [e]; exact run_skip hc)
    rw [hc] at h2
    exact h2
theorem all_mono {p q : UInt8 → Bool} (h : ∀ c, p c = true → q c = true) {l : TextA} (hl : l.all p = true) : l.all q = true := by
  rw [List.all_eq_true] at hl ⊢
  exact fun c hc => h c (hl c hc)
theorem atom_r {c : UInt8} (h : atomC c = true) : rByte c = true := by
  unfold rByte
  rw [h]
  rfl
theorem dom_r {c : UInt8} (h : orDotA domC c = true) : rByte c = true := by
  unfold orDotA domC at h
  unfold rByte atomC
  by_cases h46 : c = 46
  · subst h46
    rfl
  · by_cases h45 : c = 45
    · subst h45
      rfl
    · rw [beq_eq_false_iff_ne.2 h46, beq_eq_false_iff_ne.2 h45, Bool.false_or, Bool.false_or] at h
      rw [h]
      simp
theorem loc_r {c : UInt8} (h : orDotA atomC c = true) : rByte c = true := by
  unfold orDotA at h
  unfold rByte
  rw [Bool.or_eq_true] at h
  rcases h with h | h
  · rw [h]
    simp
  · rw [h]
    rfl
theorem bare_all {l d : TextA} (hl : l.all (orDotA atomC) = true) (hd : d.all (orDotA domC) = true) : (l ++ 64 :: d).all rByte = true := by
  rw [List.all_append, List.all_cons, all_mono (fun c => loc_r) hl, all_mono (fun c => dom_r) hd]
  decide
theorem right_nameless {n l d : TextA} (h : rightA (n, l, d) = true) : rightA ([], l, d) = true := by
  unfold rightA at h ⊢
  rw [Bool.and_eq_true] at h
  rw [Bool.and_eq_true]
  exact ⟨rfl, h.2⟩
/-- A bare address, read the program's way: one sign. -/
theorem bare_sign {s r : TextA} {a : AddrA} (h : readBareA s = some (a, r)) (n : TextA) (hr : rightA (n, a.2.1, a.2.2) = true) (hn : noR r) : a.1 = [] ∧ stepA s = some ((114, bareA a), r) ∧ mailA (bareA a) = some a ∧ skipA s = s := by
  have hr2 := hr
  unfold rightA at hr2
  rw [Bool.and_eq_true, Bool.and_eq_true] at hr2
  obtain ⟨la, c, t, hc1, hc2⟩ := dot_all hr2.2.1
  obtain ⟨da, _⟩ := dot_all hr2.2.2
  unfold readBareA at h
  split at h
  · cases h
  · rename_i t2 ht2
    simp only [Option.some.injEq, Prod.mk.injEq] at h
    obtain ⟨rfl, rfl⟩ := h
    simp only at hr hr2 la da hc1 ⊢
    have hs := List.takeWhile_append_dropWhile (p := orDotA atomC) (l := s)
    rw [cut_len ht2] at hs
    have ht := List.takeWhile_append_dropWhile (p := orDotA domC) (l := t2)
    obtain ⟨L, hL⟩ : ∃ L, s.takeWhile (orDotA atomC) = L := ⟨_, rfl⟩
    obtain ⟨D, hD⟩ : ∃ D, t2.takeWhile (orDotA domC) = D := ⟨_, rfl⟩
    obtain ⟨E, hE⟩ : ∃ E, t2.dropWhile (orDotA domC) = E := ⟨_, rfl⟩
    rw [hL] at hs la hc1
    rw [hD, hE] at ht
    rw [hD] at da
    rw [hE] at hn
    rw [hL, hD, hE]
    have hs2 : s = bareA ([], L, D) ++ E := by
      rw [← hs, ← ht]
      unfold bareA
      simp
    obtain ⟨q1, q2⟩ := run_whole (bare_all la da) hn
    have hfirst : s = c :: (t ++ 64 :: D ++ E) := by
      rw [hs2]
      unfold bareA
      show L ++ 64 :: D ++ E = _
      rw [hc1]
      simp
    have hrc := atom_r hc2
    refine ⟨by first | rfl | trivial, ?_, ?_, ?_⟩
    · rw [hfirst, run_step hrc, ← hfirst, hs2]
      show some ((114, ((L ++ 64 :: D) ++ E).takeWhile rByte), ((L ++ 64 :: D) ++ E).dropWhile rByte) = _
      rw [q1, q2]
      rfl
    · have := mail_back n L D (by rw [← hL, ← hD]; exact hr)
      exact this
    · rw [hfirst]
      exact run_skip hrc
theorem mail_some {q : TextA} {a : AddrA} (h : mailA q = some a) : a.1 = [] ∧ q = a.2.1 ++ 64 :: a.2.2 ∧ rightA ([], a.2.1, a.2.2) = true := by
  unfold mailA at h
  split at h
  · cases h
  · rename_i t ht
    split at h
    · rename_i hr
      cases h
      refine ⟨rfl, ?_, hr⟩
      have hs := List.takeWhile_append_dropWhile (p := (· != (64 : UInt8))) (l := q)
      rw [cut_len ht] at hs
      exact hs.symm
    · cases h
/-- One sign that is a mailbox, read the program's way. -/
theorem sign_bare {s q u : TextA} {a : AddrA} (h : stepA s = some ((114, q), u)) (hm : mailA q = some a) : readBareA s = some (a, u) := by
  obtain ⟨hq, hu, _⟩ := step_run h
  obtain ⟨h1, h2, h3⟩ := mail_some hm
  unfold rightA at h3
  rw [Bool.and_eq_true, Bool.and_eq_true] at h3
  obtain ⟨la, _⟩ := dot_all h3.2.1
  obtain ⟨da, _⟩ := dot_all h3.2.2
  have hs := List.takeWhile_append_dropWhile (p := rByte) (l := s)
  rw [← hq, ← hu, h2] at hs
  have hn : ∀ c t, u = c :: t → orDotA domC c = false := fun c t e => by
    cases hc : orDotA domC c with
    | false => rfl
    | true =>
      have := drop_noR s c t (by rw [← hu, e])
      rw [dom_r hc] at this
      exact this
  have := bare_read a.2.1 a.2.2 u la da hn
  rw [show a.2.1 ++ 64 :: (a.2.2 ++ u) = s by rw [← hs]; simp] at this
  rw [this]
  obtain ⟨n, l, d⟩ := a
  simp only at h1
  rw [h1]

def isWordA (t : SignA) : Bool := t.1 == 113 || (t.1 == 114 && pieceA atomC t.2)
def wordsS : Nat → TextA → List SignA → Nat × TextA × List SignA
  | k, nm, [] => (k, nm, [])
  | k, nm, t :: ts => if isWordA t = true then wordsS (k + 1) ((if 0 < k then nm ++ [32] else nm) ++ t.2) ts else (k, nm, t :: ts)
def addrS (ts : List SignA) : Option (AddrA × List SignA) :=
  if (wordsS 0 [] ts).1 = 0 then
    match (wordsS 0 [] ts).2.2 with
    | [] => none
    | t :: r => if t.1 = 114 then (mailA t.2).map (fun a => (a, r)) else none
  else
    match (wordsS 0 [] ts).2.2 with
    | t1 :: t2 :: t3 :: r => if t1.1 = 60 ∧ t2.1 = 114 ∧ t3.1 = 62 then
        match mailA t2.2 with
        | none => none
        | some b => if rightA ((wordsS 0 [] ts).2.1, b.2.1, b.2.2) = true then some (((wordsS 0 [] ts).2.1, b.2.1, b.2.2), r) else none
      else none
    | _ => none
def listS : Nat → List AddrA → List SignA → Option (List AddrA)
  | 0, _, _ => none
  | n + 1, acc, ts => match addrS ts with
    | none => none
    | some (a, r) => match r with
      | [] => some (acc ++ [a])
      | t :: r => if t.1 = 44 then listS n (acc ++ [a]) r else none
/-- A name of words. -/
def behindA (tk : List SignA) : TextA := tk.flatMap fun t => 32 :: t.2
theorem join_behind (x : TextA) : ∀ tk : List SignA, joinA (x :: tk.map (·.2)) = x ++ behindA tk
  | [] => by simp [joinA, Lib.join, List.intercalate, behindA]
  | t :: tk => by
    rw [List.map_cons, join_consA, join_behind t.2 tk]
    simp [behindA]
theorem words_more : ∀ (tk : List SignA) (k : Nat) (nm : TextA) (r : List SignA), tk.all isWordA = true → 0 < k → wordsS k nm (tk ++ r) = wordsS (k + tk.length) (nm ++ behindA tk) r
  | [], k, nm, r, _, _ => by simp [behindA]
  | t :: tk, k, nm, r, h, hk => by
    rw [List.all_cons, Bool.and_eq_true] at h
    rw [List.cons_append, wordsS, if_pos h.1, if_pos hk, words_more tk (k + 1) _ r h.2 (by omega)]
    congr 1
    · simp
      omega
    · simp [behindA]
theorem words_all (tk : List SignA) (h0 : tk ≠ []) (h : tk.all isWordA = true) (r : List SignA) : wordsS 0 [] (tk ++ r) = wordsS tk.length (joinA (tk.map (·.2))) r := by
  cases tk with
  | nil => exact absurd rfl h0
  | cons t tk =>
    rw [List.all_cons, Bool.and_eq_true] at h
    rw [List.cons_append, wordsS, if_pos h.1, if_neg (by omega), List.nil_append, words_more tk 1 t.2 r h.2 (by omega), List.map_cons, join_behind]
    congr 1
    simp
    omega
theorem words_stop (k : Nat) (nm : TextA) (t : SignA) (r : List SignA) (h : isWordA t = false) : wordsS k nm (t :: r) = (k, nm, t :: r) := by
  rw [wordsS, if_neg (by rw [h]; simp)]
theorem piece_take {s : TextA} (h : pieceA atomC (s.takeWhile rByte) = true) : s.takeWhile atomC = s.takeWhile rByte ∧ s.dropWhile atomC = s.dropWhile rByte := by
  unfold pieceA at h
  rw [Bool.and_eq_true] at h
  have hs := List.takeWhile_append_dropWhile (p := rByte) (l := s)
  have hn := drop_noR s
  obtain ⟨q, hq⟩ : ∃ q, s.takeWhile rByte = q := ⟨_, rfl⟩
  obtain ⟨u, hu⟩ : ∃ u, s.dropWhile rByte = u := ⟨_, rfl⟩
  rw [hq] at h hs
  rw [hu] at hs hn
  rw [hq, hu, ← hs]
  cases u with
  | nil =>
    rw [List.append_nil]
    exact take_end q h.2
  | cons c t =>
    refine take_to c t ?_ q h.2
    cases hc : atomC c with
    | false => rfl
    | true =>
      have := hn c t rfl
      rw [atom_r hc] at this
      exact this
/-- A word, read the program's way: one sign. -/
theorem word_sign {s w r : TextA} (h : wordA s = some (w, r)) (hn : noR r) : ∃ t : SignA, isWordA t = true ∧ t.2 = w ∧ stepA s = some (t, r) := by
  cases s with
  | nil => cases h
  | cons c s =>
    rw [word_cons] at h
    split at h
    · rename_i hc
      subst hc
      refine ⟨(113, w), rfl, rfl, ?_⟩
      rw [step_cons, if_neg (by decide), if_pos rfl, h]
      rfl
    · split at h
      · rename_i hc
        simp only [Option.some.injEq, Prod.mk.injEq] at h
        obtain ⟨h1, h2⟩ := h
        have hs := List.takeWhile_append_dropWhile (p := atomC) (l := c :: s)
        rw [h1, h2] at hs
        have hw : w.all atomC = true := by
          rw [← h1]
          exact List.all_takeWhile
        have hne : w ≠ [] := by
          rw [← h1, List.takeWhile_cons, if_pos hc]
          simp
        obtain ⟨q1, q2⟩ := run_whole (all_mono (fun c => atom_r) hw) hn
        refine ⟨(114, w), ?_, rfl, ?_⟩
        · unfold isWordA pieceA
          rw [hw]
          cases w with
          | nil => exact absurd rfl hne
          | cons _ _ => rfl
        · rw [run_step (atom_r hc), ← hs, q1, q2]
      · cases h
theorem noR_or {r : TextA} (h : ¬ noR r) : ∃ c t, r = c :: t ∧ rByte c = true := by
  cases r with
  | nil => exact absurd (fun c r e => by cases e) h
  | cons c t =>
    cases hc : rByte c with
    | true => exact ⟨c, t, rfl, hc⟩
    | false =>
      refine absurd (fun d u e => ?_) h
      cases e
      exact hc
/-- Behind an atom's last byte no other one of an atom stands. -/
theorem word_rest {s w r : TextA} (h : wordA s = some (w, r)) {c : UInt8} {t : TextA} (e : r = c :: t) (hs : ∀ d u, s = d :: u → d ≠ 34) : atomC c = false := by
  cases s with
  | nil => cases h
  | cons d s =>
    rw [word_cons, if_neg (hs d s rfl)] at h
    split at h
    · simp only [Option.some.injEq, Prod.mk.injEq] at h
      have h3 := List.head?_dropWhile_not (p := atomC) (l := d :: s)
      rw [h.2, e] at h3
      exact h3
    · cases h
theorem word_sign2 {s w r : TextA} (h : wordA s = some (w, r)) (hn : noR r ∨ ∃ u, s = 34 :: u) : ∃ t : SignA, isWordA t = true ∧ t.2 = w ∧ stepA s = some (t, r) := by
  rcases hn with hn | ⟨u, rfl⟩
  · exact word_sign h hn
  · rw [word_cons, if_pos rfl] at h
    refine ⟨(113, w), rfl, rfl, ?_⟩
    rw [step_cons, if_neg (by decide), if_pos rfl, h]
    rfl
theorem names_sign : ∀ (n : Nat) (ws : List TextA) (s : TextA), s.length < n → skipA s = s → (∀ ws' s', namesN n ws s = (ws', s') → noR s' → ∃ tk : List SignA, sgA s = (sgA s').map (tk ++ ·) ∧ ws' = ws ++ tk.map (·.2) ∧ tk.all isWordA = true)
  | 0, _, _, h, _ => absurd h (Nat.not_lt_zero _)
  | n + 1, ws, s, hn, hk => by
    intro ws' s' h hr
    rw [namesN] at h
    cases hw : wordA s with
    | none =>
      rw [hw] at h
      simp only [Prod.mk.injEq] at h
      obtain ⟨rfl, rfl⟩ := h
      refine ⟨[], ?_, by simp, rfl⟩
      cases sgA s <;> rfl
    | some x =>
      obtain ⟨w, r⟩ := x
      rw [hw] at h
      simp only at h
      have hl := word_len hw
      have hl2 := skip_le r
      have hnr : noR r ∨ ∃ u, s = 34 :: u := by
        by_cases hq : noR r
        · exact .inl hq
        · right
          obtain ⟨c, t, e, hc⟩ := noR_or hq
          cases s with
          | nil => cases hw
          | cons d s =>
            by_cases hd : d = 34
            · exact ⟨s, by rw [hd]⟩
            · exfalso
              have ha := word_rest hw e (fun d' u e' => by cases e'; exact hd)
              have hwr : wordA r = none := by
                rw [e, word_cons, if_neg (r_not hc).2.1, if_neg (by rw [ha]; simp)]
              have hsr : skipA r = r := by rw [e]; exact run_skip hc
              have hn1 : 0 < n := by omega
              obtain ⟨m, rfl⟩ : ∃ m, n = m + 1 := ⟨n - 1, by omega⟩
              rw [hsr, namesN, hwr] at h
              simp only [Prod.mk.injEq] at h
              have h9 := hr c t (by rw [← h.2, e])
              rw [hc] at h9
              cases h9
      obtain ⟨t, ht1, ht2, ht3⟩ := word_sign2 hw hnr
      obtain ⟨tk, q1, q2, q3⟩ := names_sign n (ws ++ [w]) (skipA r) (by omega) (skip_skip r) ws' s' h hr
      refine ⟨t :: tk, ?_, ?_, ?_⟩
      · rw [sg_take hk ht3, ← sg_skip r, q1]
        cases sgA s' <;> rfl
      · rw [q2, List.map_cons, ht2]
        simp
      · rw [List.all_cons, ht1, q3]
        rfl
/-- FROM THE PROGRAM's WAY TO THE DOCUMENT's: one address. -/
theorem addr_sign {s r : TextA} {a : AddrA} (hk : skipA s = s) (h : readAddrA s = some (a, r)) (hr : rightA a = true) (hn : noR r) : ∃ tk : List SignA, sgA s = (sgA r).map (tk ++ ·) ∧ ∀ ts, addrS (tk ++ ts) = some (a, ts) := by
  unfold readAddrA at h
  split at h
  · rename_i x hx
    cases h
    obtain ⟨q0, q1, q2, _⟩ := bare_sign hx a.1 hr hn
    refine ⟨[(114, bareA a)], ?_, fun ts => ?_⟩
    · rw [sg_take hk q1]
      rfl
    · have hnw : isWordA (114, bareA a) = false := by
        unfold isWordA pieceA
        have : (bareA a).all atomC = false := by
          unfold bareA
          rw [List.all_append, List.all_cons]
          simp [show atomC 64 = false by decide]
        rw [this]
        simp
      unfold addrS
      rw [List.singleton_append, words_stop _ _ _ _ hnw]
      simp only [if_pos]
      rw [q2]
      rfl
  · rename_i hbare
    split at h
    · cases h
    · rename_i n r1 hname
      split at h
      · cases h
      · rename_i t ht
        split at h
        · cases h
        · rename_i b u hb
          split at h
          · cases h
          · rename_i v hv
            cases h
            have e1 := cut_len ht
            have e2 := cut_len hv
            unfold readNameA at hname
            split at hname
            · cases hname
            · rename_i hne
              simp only [Option.some.injEq, Prod.mk.injEq] at hname
              obtain ⟨hj, hrest⟩ := hname
              have hnr1 : noR r1 := fun c q e => by
                rw [e1] at e
                cases e
                decide
              obtain ⟨tk, p1, p2, p3⟩ := names_sign (s.length + 1) [] s (Nat.lt_succ_self _) hk (namesN (s.length + 1) [] s).1 r1 (by rw [← hrest]) hnr1
              rw [List.nil_append] at p2
              have htk0 : tk ≠ [] := fun e => hne (by rw [p2, e]; rfl)
              have hnu : noR u := noR_skip fun c q e => by
                rw [e2] at e
                cases e
                decide
              obtain ⟨b0, b1, b2, _⟩ := bare_sign hb n hr hnu
              refine ⟨tk ++ [(60, []), (114, bareA b), (62, [])], ?_, fun ts => ?_⟩
              · rw [p1, e1, mark_sg (.inr (.inl rfl)), ← sg_skip t, sg_take (skip_skip t) b1, ← sg_skip u, e2, mark_sg (.inr (.inr rfl))]
                cases sgA r <;> simp
              · have hjn : joinA (tk.map (·.2)) = n := by rw [← p2]; exact hj
                have hstop : wordsS tk.length (joinA (tk.map (·.2))) (((60, []) : SignA) :: ((114, bareA b) : SignA) :: ((62, []) : SignA) :: ts) = (tk.length, joinA (tk.map (·.2)), ((60, []) : SignA) :: ((114, bareA b) : SignA) :: ((62, []) : SignA) :: ts) := words_stop _ _ _ _ rfl
                unfold addrS
                rw [List.append_assoc, words_all tk htk0 p3]
                show (if (wordsS tk.length (joinA (tk.map (·.2))) (((60, []) : SignA) :: ((114, bareA b) : SignA) :: ((62, []) : SignA) :: ts)).1 = 0 then _ else _) = _
                have e9 : [((60, []) : SignA), (114, bareA b), (62, [])] ++ ts = ((60, []) : SignA) :: ((114, bareA b) : SignA) :: ((62, []) : SignA) :: ts := rfl
                rw [e9, hstop]
                simp only
                rw [if_neg (by have := List.length_pos_iff.2 htk0; omega), if_pos (by simp), b2, hjn]
                simp only
                rw [if_pos hr]
/-- FROM THE PROGRAM's WAY TO THE DOCUMENT's. -/
theorem list_sign : ∀ (n : Nat) (acc : List AddrA) (s : TextA) (l : List AddrA), listN n acc s = some l → ∃ ts, sgA s = some ts ∧ ∀ m, ts.length < m → listS m acc ts = some l
  | 0, _, _, _, h => by cases h
  | n + 1, acc, s, l, h => by
    rw [listN] at h
    cases hq : readAddrA (skipA s) with
    | none => rw [hq] at h; cases h
    | some x =>
      obtain ⟨a, r⟩ := x
      rw [hq] at h
      simp only at h
      split at h
      · cases h
      · rename_i hr
        have hr2 : rightA a = true := by simpa using hr
        split at h
        · rename_i he
          simp only [Option.some.injEq] at h
          have hn : noR r := noR_skip fun c q e => by rw [he] at e; cases e
          obtain ⟨tk, q1, q2⟩ := addr_sign (skip_skip s) hq hr2 hn
          rw [sg_skip, sg_end he] at q1
          refine ⟨tk ++ [], q1, fun m hm => ?_⟩
          obtain ⟨m, rfl⟩ : ∃ k, m = k + 1 := ⟨m - 1, by omega⟩
          rw [listS, q2, ← h]
        · split at h
          · cases h
          · rename_i t ht
            have e1 := cut_len ht
            have hn : noR r := noR_skip fun c q e => by
              rw [e1] at e
              cases e
              decide
            obtain ⟨tk, q1, q2⟩ := addr_sign (skip_skip s) hq hr2 hn
            obtain ⟨ts, p1, p2⟩ := list_sign n (acc ++ [a]) t l h
            rw [sg_skip, ← sg_skip r, e1, mark_sg (.inl rfl), p1] at q1
            refine ⟨tk ++ (44, []) :: ts, q1, fun m hm => ?_⟩
            obtain ⟨m, rfl⟩ : ∃ k, m = k + 1 := ⟨m - 1, by omega⟩
            rw [listS, q2]
            simp only [if_pos]
            refine p2 m ?_
            simp at hm
            omega
/-- A word's sign, read the program's way. -/
theorem sign_word {s u : TextA} {t : SignA} (h : stepA s = some (t, u)) (ht : isWordA t = true) : wordA s = some (t.2, u) ∧ readBareA s = none := by
  cases s with
  | nil => cases h
  | cons c r =>
    rw [step_cons] at h
    split at h
    · rename_i hm
      simp only [Option.some.injEq, Prod.mk.injEq] at h
      obtain ⟨rfl, _⟩ := h
      exfalso
      rcases hm with rfl | rfl | rfl <;> exact absurd ht (by decide)
    · split at h
      · rename_i hc
        subst hc
        cases hq : hearA false [] r with
        | none => rw [hq] at h; cases h
        | some x =>
          rw [hq] at h
          simp only [Option.map_some, Option.some.injEq, Prod.mk.injEq] at h
          obtain ⟨rfl, rfl⟩ := h
          exact ⟨by rw [word_cons, if_pos rfl, hq], rfl⟩
      · split at h
        · rename_i hnm hn34 hr
          simp only [Option.some.injEq, Prod.mk.injEq] at h
          obtain ⟨rfl, rfl⟩ := h
          have hp : pieceA atomC ((c :: r).takeWhile rByte) = true := by
            unfold isWordA at ht
            simpa using ht
          obtain ⟨q1, q2⟩ := piece_take hp
          have hp2 := hp
          unfold pieceA at hp2
          rw [Bool.and_eq_true] at hp2
          have hca : atomC c = true := by
            have h1 := hp2.2
            rw [List.takeWhile_cons, if_pos hr, List.all_cons, Bool.and_eq_true] at h1
            exact h1.1
          refine ⟨by rw [word_cons, if_neg hn34, if_pos hca, q1, q2], ?_⟩
          have hs := List.takeWhile_append_dropWhile (p := rByte) (l := c :: r)
          have hn := drop_noR (c :: r)
          obtain ⟨q, hq⟩ : ∃ q, (c :: r).takeWhile rByte = q := ⟨_, rfl⟩
          obtain ⟨u, hu⟩ : ∃ u, (c :: r).dropWhile rByte = u := ⟨_, rfl⟩
          rw [hq] at hs hp2
          rw [hu] at hs hn
          have hqd : q.all (orDotA atomC) = true := all_mono (fun c hc => by unfold orDotA; rw [hc, Bool.or_true]) hp2.2
          have hdr : (c :: r).dropWhile (orDotA atomC) = u := by
            rw [← hs]
            cases u with
            | nil =>
              rw [List.append_nil]
              exact (take_end q hqd).2
            | cons d t =>
              refine (take_to d t ?_ q hqd).2
              cases hd : orDotA atomC d with
              | false => rfl
              | true =>
                have := hn d t rfl
                rw [loc_r hd] at this
                exact this
          unfold readBareA
          rw [hdr]
          cases u with
          | nil => rfl
          | cons d t =>
            rw [cutA_cons, if_neg]
            rintro rfl
            exact absurd (hn 64 t rfl) (by decide)
        · cases h
theorem sign_names : ∀ (ts : List SignA) (n : Nat) (ws : List TextA) (s : TextA) (k : Nat) (nm : TextA) (k' : Nat) (nm' : TextA) (q : TextA) (r : List SignA), s.length < n → skipA s = s → sgA s = some ts → wordsS k nm ts = (k', nm', (60, q) :: r) →
    ∃ tk : List SignA, ∃ s', namesN n ws s = (ws ++ tk.map (·.2), 60 :: s') ∧ sgA s' = some r ∧ tk.all isWordA = true ∧ ts = tk ++ (60, q) :: r
  | [], n, ws, s, k, nm, k', nm', q, r, _, _, _, h => by
    rw [wordsS] at h
    cases h
  | t :: ts, n, ws, s, k, nm, k', nm', q, r, hn, hk, hs, h => by
    obtain ⟨n, rfl⟩ : ∃ m, n = m + 1 := ⟨n - 1, by omega⟩
    obtain ⟨u, hu, hsu⟩ := sg_head hs
    rw [hk] at hu
    rw [wordsS] at h
    by_cases hw : isWordA t = true
    · rw [if_pos hw] at h
      obtain ⟨h1, _⟩ := sign_word hu hw
      have hl := word_len h1
      have hl2 := skip_le u
      obtain ⟨tk, s', p1, p2, p3, p4⟩ := sign_names ts n (ws ++ [t.2]) (skipA u) (k + 1) _ k' nm' q r (by omega) (skip_skip u) (by rw [sg_skip]; exact hsu) h
      refine ⟨t :: tk, s', ?_, p2, ?_, by rw [p4]; rfl⟩
      · rw [namesN, h1]
        simp only
        rw [p1, List.map_cons]
        simp
      · rw [List.all_cons, hw, p3]
        rfl
    · rw [if_neg hw] at h
      simp only [Prod.mk.injEq, List.cons.injEq] at h
      obtain ⟨_, _, rfl, rfl⟩ := h
      have e := step_mark hu (.inr (.inl rfl))
      refine ⟨[], u, ?_, hsu, rfl, rfl⟩
      rw [namesN, e, word_end]
      simp
/-- FROM THE DOCUMENT's WAY TO THE PROGRAM's: one address. -/
theorem sign_addr {s : TextA} {ts r : List SignA} {a : AddrA} (hk : skipA s = s) (hs : sgA s = some ts) (h : addrS ts = some (a, r)) : ∃ rest, readAddrA s = some (a, rest) ∧ sgA rest = some r ∧ rightA a = true := by
  unfold addrS at h
  split at h
  · rename_i h0
    have hts : (wordsS 0 [] ts).2.2 = ts := by
      cases ts with
      | nil => rfl
      | cons t ts =>
        rw [wordsS] at h0 ⊢
        split
        · rename_i hw
          rw [if_pos hw] at h0
          exfalso
          have : ∀ (ts : List SignA) (k : Nat) (nm : TextA), k ≤ (wordsS k nm ts).1 := by
            intro ts
            induction ts with
            | nil => intro k nm; exact Nat.le_refl _
            | cons t ts ih =>
              intro k nm
              rw [wordsS]
              split
              · have := ih (k + 1) ((if 0 < k then nm ++ [32] else nm) ++ t.2)
                omega
              · exact Nat.le_refl _
          have h9 := this ts (0 + 1) ((if 0 < 0 then [] ++ [32] else []) ++ t.2)
          omega
        · rfl
    rw [hts] at h
    cases ts with
    | nil => cases h
    | cons t ts =>
      simp only at h
      split at h
      · rename_i h114
        cases hm : mailA t.2 with
        | none => rw [hm] at h; cases h
        | some b =>
          rw [hm] at h
          simp only [Option.map_some, Option.some.injEq, Prod.mk.injEq] at h
          obtain ⟨rfl, rfl⟩ := h
          obtain ⟨u, hu, hsu⟩ := sg_head hs
          rw [hk] at hu
          have ht : t = (114, t.2) := by rw [← h114]
          rw [ht] at hu
          refine ⟨u, ?_, hsu, ?_⟩
          · unfold readAddrA
            rw [sign_bare hu hm]
          · obtain ⟨m1, m2, m3⟩ := mail_some hm
            obtain ⟨n, l, d⟩ := b
            simp only at m1
            rw [m1]
            exact m3
      · cases h
  · rename_i h0
    split at h
    · rename_i t1 t2 t3 r2 hw
      split at h
      · rename_i hmk
        obtain ⟨m1, m2, m3⟩ := hmk
        split at h
        · cases h
        · rename_i b hm
          split at h
          · rename_i hr
            simp only [Option.some.injEq, Prod.mk.injEq] at h
            obtain ⟨rfl, rfl⟩ := h
            have e1 : t1 = (60, t1.2) := by rw [← m1]
            have e2 : t2 = (114, t2.2) := by rw [← m2]
            have e3 : t3 = (62, t3.2) := by rw [← m3]
            have hw3 : wordsS 0 [] ts = ((wordsS 0 [] ts).1, (wordsS 0 [] ts).2.1, (60, t1.2) :: t2 :: t3 :: r2) := by
              rw [← e1, ← hw]
            obtain ⟨tk, s', p1, p2, p3, p4⟩ := sign_names ts (s.length + 1) [] s 0 [] _ _ _ _ (Nat.lt_succ_self _) hk hs hw3
            rw [List.nil_append] at p1
            have htk0 : tk ≠ [] := by
              rintro rfl
              rw [p4, List.nil_append, words_stop _ _ _ _ rfl] at h0
              exact h0 rfl
            have hname : (wordsS 0 [] ts).2.1 = joinA (tk.map (·.2)) := by
              rw [p4, words_all tk htk0 p3, words_stop _ _ _ _ rfl]
            obtain ⟨u, hu, hsu⟩ := sg_head p2
            rw [e2] at hu
            have hb := sign_bare hu hm
            obtain ⟨v, hv, hsv⟩ := sg_head hsu
            rw [e3] at hv
            have ev := step_mark hv (.inr (.inr rfl))
            refine ⟨v, ?_, hsv, by exact hr⟩
            have hbn : readBareA s = none := by
              cases tk with
              | nil => exact absurd rfl htk0
              | cons t tk =>
                rw [p4, List.cons_append] at hs
                obtain ⟨u2, hu2, _⟩ := sg_head hs
                rw [hk] at hu2
                rw [List.all_cons, Bool.and_eq_true] at p3
                exact (sign_word hu2 p3.1).2
            have hrn : readNameA s = some (joinA (tk.map (·.2)), 60 :: s') := by
              unfold readNameA
              rw [p1, if_neg]
              intro e
              exact htk0 (List.map_eq_nil_iff.1 e)
            unfold readAddrA
            rw [hbn, hrn]
            simp only
            rw [cutA_cons, if_pos rfl]
            simp only
            rw [hb]
            simp only
            rw [ev, cutA_cons, if_pos rfl]
            simp only
            rw [hname]
          · cases h
      · cases h
    · cases h
/-- FROM THE DOCUMENT's WAY TO THE PROGRAM's. -/
theorem sign_list : ∀ (m : Nat) (acc : List AddrA) (s : TextA) (ts : List SignA) (l : List AddrA), sgA s = some ts → listS m acc ts = some l → ∀ n, s.length < n → listN n acc s = some l
  | 0, _, _, _, _, _, h => by cases h
  | m + 1, acc, s, ts, l, hs, h => by
    intro n hn
    obtain ⟨n, rfl⟩ : ∃ k, n = k + 1 := ⟨n - 1, by omega⟩
    rw [listS] at h
    cases hq : addrS ts with
    | none => rw [hq] at h; cases h
    | some x =>
      obtain ⟨a, r⟩ := x
      rw [hq] at h
      simp only at h
      obtain ⟨rest, p1, p2, p3⟩ := sign_addr (skip_skip s) (by rw [sg_skip]; exact hs) hq
      have hl := addr_len p1
      have hl2 := skip_le s
      have hl3 := skip_le rest
      rw [listN, p1]
      simp only
      rw [if_neg (by rw [p3]; simp)]
      cases r with
      | nil =>
        rw [if_pos (sg_nil p2)]
        exact h
      | cons t r =>
        simp only at h
        split at h
        · rename_i h44
          obtain ⟨u, hu, hsu⟩ := sg_head p2
          have e1 : t = (44, t.2) := by rw [← h44]
          rw [e1] at hu
          have e2 := step_mark hu (.inl rfl)
          rw [if_neg (by rw [e2]; simp), e2, cutA_cons, if_pos rfl]
          simp only
          refine sign_list m (acc ++ [a]) u r l hsu h n ?_
          rw [e2] at hl3
          simp at hl3
          omega
        · cases h
def parseR (s : TextA) : List AddrA × Nat :=
  if 16384 < s.length then ([], 3) else match sgA s with
    | none => ([], 2)
    | some ts => match listS (ts.length + 1) [] ts with
      | none => ([], 2)
      | some l => if 64 < l.length then ([], 3) else (l, 0)
/-- BOTH WAYS COME TO THE SAME. -/
theorem parse_same (s : TextA) : parseR s = parseA s := by
  unfold parseR parseA readListA
  split
  · rfl
  · cases hl : listN (s.length + 1) [] s with
    | some l =>
      obtain ⟨ts, q1, q2⟩ := list_sign _ _ _ _ hl
      rw [q1]
      simp only
      rw [q2 _ (Nat.lt_succ_self _)]
    | none =>
      cases hs : sgA s with
      | none => rfl
      | some ts =>
        simp only
        cases hq : listS (ts.length + 1) [] ts with
        | none => rfl
        | some l =>
          rw [sign_list _ _ _ _ _ hs hq _ (Nat.lt_succ_self _)] at hl
          cases hl
end Go.Proofs.YtemkikpdmihmpaaDoor
