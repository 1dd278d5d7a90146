/-
  One address that is right comes back from its text: plain facts, of no program.
-/
import Derived.Test.YtafpifpgfpkckaaDoorA11P
namespace Go.Proofs.YtafpifpgfpkckaaDoor

theorem take_to {p : UInt8 → Bool} (c : UInt8) (r : TextA) (hc : p c = false) : ∀ l : TextA, l.all p = true → (l ++ c :: r).takeWhile p = l ∧ (l ++ c :: r).dropWhile p = c :: r
  | [], _ => by simp [hc]
  | d :: l, h => by
    rw [List.all_cons, Bool.and_eq_true] at h
    obtain ⟨a, b⟩ := take_to c r hc l h.2
    simp [h.1, a, b]
theorem take_end {p : UInt8 → Bool} : ∀ l : TextA, l.all p = true → l.takeWhile p = l ∧ l.dropWhile p = []
  | [], _ => by simp
  | d :: l, h => by
    rw [List.all_cons, Bool.and_eq_true] at h
    obtain ⟨a, b⟩ := take_end l h.2
    simp [h.1, a, b]
/-- Dotted texts: their bytes, and their first one. -/
theorem ok_all (p : UInt8 → Bool) (b : UInt8) : ∀ (s : TextA) (f : Bool), okD b p f s = true → s.all (fun c => c == b || p c) = true
  | [], _, _ => rfl
  | c :: r, f, h => by
    unfold okD at h
    rw [List.all_cons]
    by_cases hc : c = b
    · rw [if_pos hc, Bool.and_eq_true] at h
      rw [ok_all p b r true h.2, hc]
      simp
    · rw [if_neg hc, Bool.and_eq_true] at h
      rw [ok_all p b r false h.2, h.1]
      simp
theorem ok_first {p : UInt8 → Bool} {b : UInt8} {s : TextA} (h : okD b p true s = true) : ∃ c r, s = c :: r ∧ p c = true := by
  cases s with
  | nil => cases h
  | cons c r =>
    unfold okD at h
    by_cases hc : c = b
    · rw [if_pos hc] at h
      cases h
    · rw [if_neg hc, Bool.and_eq_true] at h
      exact ⟨c, r, rfl, h.1⟩
theorem dot_all {p : UInt8 → Bool} {s : TextA} (h : dottedA p s = true) : s.all (orDotA p) = true ∧ ∃ c r, s = c :: r ∧ p c = true := by
  unfold dottedA at h
  rw [Bool.and_eq_true, joined_eq] at h
  exact ⟨ok_all p 46 s true h.2, ok_first h.2⟩
theorem atom_skip {c : UInt8} (h : atomC c = true) (r : TextA) : skipA (c :: r) = c :: r := by
  have h1 : ¬ (c = 32 ∨ c = 9) := by
    rintro (rfl | rfl)
    · exact absurd h (by decide)
    · exact absurd h (by decide)
  have h2 : c ≠ 40 := by
    rintro rfl
    exact absurd h (by decide)
  exact skip_else h1 h2 r
/-- What is bare is read, whatever stands behind it that isn't of a domain. -/
theorem bare_read (l d r : TextA) (hl : l.all (orDotA atomC) = true) (hd : d.all (orDotA domC) = true) (hr : ∀ c t, r = c :: t → orDotA domC c = false) : readBareA (l ++ 64 :: (d ++ r)) = some (([], l, d), r) := by
  obtain ⟨a, b⟩ := take_to 64 (d ++ r) (show orDotA atomC 64 = false by decide) l hl
  unfold readBareA
  rw [a, b, cutA_cons, if_pos rfl]
  show some ((([] : TextA), l, (d ++ r).takeWhile (orDotA domC)), (d ++ r).dropWhile (orDotA domC)) = _
  cases r with
  | nil =>
    rw [List.append_nil]
    obtain ⟨e, f⟩ := take_end d hd
    rw [e, f]
  | cons c t =>
    obtain ⟨e, f⟩ := take_to c t (hr c t rfl) d hd
    rw [e, f]
theorem hear_tell (r : TextA) : ∀ (n acc : TextA), hearA false acc (n.flatMap tellA ++ 34 :: r) = some (acc ++ n, r)
  | [], acc => by simp [hearA]
  | c :: n, acc => by
    have ih := hear_tell r n (acc ++ [c])
    rw [List.flatMap_cons]
    unfold tellA
    by_cases hc : c = 34 ∨ c = 92
    · rw [if_pos hc]
      show hearA true acc (c :: (n.flatMap tellA ++ 34 :: r)) = _
      show hearA false (acc ++ [c]) (n.flatMap tellA ++ 34 :: r) = _
      rw [ih]
      simp
    · rw [if_neg hc]
      have e : hearA false acc (c :: (n.flatMap tellA ++ 34 :: r)) = hearA false (acc ++ [c]) (n.flatMap tellA ++ 34 :: r) := by
        rw [hearA, if_neg (fun e => hc (.inr e)), if_neg (fun e => hc (.inl e))]
      show hearA false acc (c :: (n.flatMap tellA ++ 34 :: r)) = _
      rw [e, ih]
      simp
theorem word_end (r : TextA) : wordA (60 :: r) = none := rfl
/-- Atoms with single blanks between, with a blank and < behind them. -/
theorem names_read (r : TextA) : ∀ (k : Nat) (n : TextA) (ws : List TextA) (m : Nat), n.length = k → okD 32 atomC true n = true → n.length < m → namesN (m + 1) ws (n ++ 32 :: 60 :: r) = (ws ++ splitB 32 n, 60 :: r) := by
  intro k
  induction k using Nat.strongRecOn with
  | ind k ih =>
    intro n ws m hk hok hm
    obtain ⟨c, t, rfl, hc⟩ := ok_first hok
    have hne : (c :: t).takeWhile atomC ≠ [] := by
      rw [List.takeWhile_cons, if_pos hc]
      simp
    have hsplit := List.takeWhile_append_dropWhile (p := atomC) (l := c :: t)
    obtain ⟨p, hp⟩ : ∃ p, (c :: t).takeWhile atomC = p := ⟨_, rfl⟩
    have hpa : p.all atomC = true := by
      rw [← hp]
      exact List.all_takeWhile
    have hno : (32 : UInt8) ∉ p := fun h32 => absurd (List.all_eq_true.1 hpa 32 h32) (by decide)
    have hc34 : c ≠ 34 := by
      rintro rfl
      exact absurd hc (by decide)
    have hpok : ∀ (q s : TextA) (f : Bool), q.all atomC = true → q ≠ [] → okD 32 atomC f (q ++ s) = okD 32 atomC false s := by
      intro q
      induction q with
      | nil => intro s f _ h; exact absurd rfl h
      | cons x q ihq =>
        intro s f hq _
        rw [List.all_cons, Bool.and_eq_true] at hq
        have hx : x ≠ 32 := by
          rintro rfl
          exact absurd hq.1 (by decide)
        show okD 32 atomC f (x :: (q ++ s)) = _
        rw [okD, if_neg hx, hq.1, Bool.true_and]
        cases q with
        | nil => rfl
        | cons y q => exact ihq s false hq.2 (by simp)
    cases hd : (c :: t).dropWhile atomC with
    | nil =>
      rw [hp, hd, List.append_nil] at hsplit
      have hw : wordA (c :: t ++ 32 :: 60 :: r) = some (p, 32 :: 60 :: r) := by
        obtain ⟨a, b⟩ := take_to 32 (60 :: r) (show atomC 32 = false by decide) (c :: t) (by rw [← hsplit]; exact hpa)
        rw [List.cons_append, word_cons, if_neg hc34, if_pos hc, ← List.cons_append, a, b, hsplit]
      obtain ⟨m, rfl⟩ : ∃ m', m = m' + 1 := ⟨m - 1, by simp at hm; omega⟩
      rw [namesN, hw]
      show namesN (m + 1) (ws ++ [p]) (skipA (32 :: 60 :: r)) = _
      rw [skip_blank (.inl rfl), skip_else (by decide) (by decide), namesN, word_end, ← hsplit, splitB_one 32 p hno]
    | cons x s =>
      rw [hp, hd] at hsplit
      have hxa : atomC x = false := by
        have h := List.head_dropWhile_not atomC (l := c :: t) (by rw [hd]; simp)
        have h3 := List.head?_dropWhile_not (p := atomC) (l := c :: t)
        rw [hd] at h3
        exact h3
      have hok2 := hok
      rw [← hsplit, hpok p (x :: s) true hpa (by rw [← hp]; exact hne), okD] at hok2
      have hx32 : x = 32 := by
        by_cases h : x = 32
        · exact h
        · rw [if_neg h, hxa] at hok2
          cases hok2
      subst hx32
      rw [if_pos rfl] at hok2
      have hok3 : okD 32 atomC true s = true := hok2
      have hlen := congrArg List.length hsplit
      rw [List.length_append, List.length_cons] at hlen
      have hpl : 0 < p.length := by
        rw [← hp]
        exact List.length_pos_iff.2 hne
      have hw : wordA (c :: t ++ 32 :: 60 :: r) = some (p, 32 :: (s ++ 32 :: 60 :: r)) := by
        obtain ⟨a, b⟩ := take_to 32 (s ++ 32 :: 60 :: r) (show atomC 32 = false by decide) p hpa
        have e : c :: t ++ 32 :: 60 :: r = p ++ 32 :: (s ++ 32 :: 60 :: r) := by rw [← hsplit]; simp
        rw [e] 
        have e2 : wordA (p ++ 32 :: (s ++ 32 :: 60 :: r)) = some ((p ++ 32 :: (s ++ 32 :: 60 :: r)).takeWhile atomC, (p ++ 32 :: (s ++ 32 :: 60 :: r)).dropWhile atomC) := by
          rw [← e, List.cons_append, word_cons, if_neg hc34, if_pos hc]
        rw [e2, a, b]
      obtain ⟨m, rfl⟩ : ∃ m', m = m' + 1 := ⟨m - 1, by simp at hm; omega⟩
      rw [namesN, hw]
      show namesN (m + 1) (ws ++ [p]) (skipA (32 :: (s ++ 32 :: 60 :: r))) = _
      obtain ⟨y, u, rfl, hy⟩ := ok_first hok3
      rw [skip_blank (.inl rfl), List.cons_append, atom_skip hy, ← List.cons_append, ih (y :: u).length (by omega) (y :: u) (ws ++ [p]) m rfl hok3 (by omega), ← hsplit, splitB_at 32 (y :: u) p hno, List.append_assoc]
      rfl
theorem join_consA (x y : TextA) (l : List TextA) : joinA (x :: y :: l) = x ++ 32 :: joinA (y :: l) := by
  simp [joinA, Lib.join, List.intercalate]
theorem join_splitsA : ∀ n : TextA, joinA (splitB 32 n) = n
  | [] => rfl
  | c :: r => by
    have ih := join_splitsA r
    unfold splitB
    rw [splitB_cons 32 r] at ih ⊢
    obtain ⟨h, hh⟩ : ∃ h, (splitB 32 r).headD [] = h := ⟨_, rfl⟩
    obtain ⟨t, ht⟩ : ∃ t, (splitB 32 r).tail = t := ⟨_, rfl⟩
    rw [hh, ht] at ih ⊢
    by_cases hc : c = 32
    · rw [if_pos hc, join_consA, ih, hc]
      rfl
    · rw [if_neg hc]
      cases t with
      | nil =>
        have e : h = r := by simpa [joinA, Lib.join, List.intercalate] using ih
        simp [joinA, Lib.join, List.intercalate, e]
      | cons y t =>
        rw [join_consA] at ih
        show joinA ((c :: h) :: y :: t) = _
        rw [join_consA, List.cons_append, ih]

theorem names_fuel : ∀ (n m : Nat) (ws : List TextA) (s : TextA), s.length < n → s.length < m → namesN n ws s = namesN m ws s
  | 0, _, _, _, h, _ => absurd h (Nat.not_lt_zero _)
  | _ + 1, 0, _, _, _, h => absurd h (Nat.not_lt_zero _)
  | n + 1, m + 1, ws, s, h1, h2 => by
    rw [namesN, namesN]
    cases hw : wordA s with
    | none => rfl
    | some x =>
      have h3 := word_len hw
      have h4 := skip_le x.2
      exact names_fuel n m _ _ (by omega) (by omega)
/-- A name's text, with a blank and < behind it. -/
theorem name_read (n r : TextA) (hn : n ≠ []) : readNameA (nameTextA n ++ 32 :: 60 :: r) = some (n, 60 :: r) ∧ readBareA (nameTextA n ++ 32 :: 60 :: r) = none ∧ skipA (nameTextA n ++ 32 :: 60 :: r) = nameTextA n ++ 32 :: 60 :: r := by
  unfold nameTextA
  cases hj : joinedA 32 atomC n with
  | true =>
    rw [if_pos rfl]
    rw [joined_eq] at hj
    obtain ⟨c, t, rfl, hc⟩ := ok_first hj
    refine ⟨?_, ?_, ?_⟩
    · have h := names_read r (c :: t).length (c :: t) [] ((c :: t ++ 32 :: 60 :: r).length) rfl hj (by simp)
      unfold readNameA
      rw [h, List.nil_append, if_neg (splitB_ne 32 _), join_splitsA]
    · have hok := ok_all atomC 32 (c :: t) true hj
      unfold readBareA
      have : ∀ l : TextA, l.all (fun c => c == 32 || atomC c) = true → cutA 64 ((l ++ 32 :: 60 :: r).dropWhile (orDotA atomC)) = none := by
        intro l
        induction l with
        | nil => intro _; rfl
        | cons x l ih =>
          intro h
          rw [List.all_cons, Bool.and_eq_true] at h
          rw [List.cons_append, List.dropWhile_cons]
          split
          · exact ih h.2
          · rw [cutA_cons, if_neg]
            rintro rfl
            exact absurd h.1 (by decide)
      rw [this _ hok]
    · rw [List.cons_append, atom_skip hc]
  | false =>
    rw [if_neg (by simp)]
    have e : quoteA n ++ 32 :: 60 :: r = 34 :: (n.flatMap tellA ++ 34 :: 32 :: 60 :: r) := by
      unfold quoteA
      simp
    rw [e]
    refine ⟨?_, rfl, skip_else (by decide) (by decide) _⟩
    have hw : wordA (34 :: (n.flatMap tellA ++ 34 :: 32 :: 60 :: r)) = some (n, 32 :: 60 :: r) := by
      rw [word_cons, if_pos rfl, hear_tell]
      rfl
    have h2 : ∀ k, namesN (k + 1) [n] (60 :: r) = ([n], 60 :: r) := fun k => by rw [namesN, word_end]
    have hN : namesN ((34 :: (n.flatMap tellA ++ 34 :: 32 :: 60 :: r)).length + 1) [] (34 :: (n.flatMap tellA ++ 34 :: 32 :: 60 :: r)) = ([n], 60 :: r) := by
      rw [namesN, hw]
      show namesN _ ([] ++ [n]) (skipA (32 :: 60 :: r)) = _
      rw [skip_blank (.inl rfl), skip_else (by decide) (by decide)]
      exact h2 _
    unfold readNameA
    rw [hN]
    simp [joinA, Lib.join, List.intercalate]
/-- ONE ADDRESS THAT IS RIGHT COMES BACK FROM ITS TEXT. -/
theorem addr_back (a : AddrA) (h : rightA a = true) : parseA (addrTextA a) = ([a], 0) := by
  obtain ⟨n, l, d⟩ := a
  have hr := h
  unfold rightA at h
  rw [Bool.and_eq_true, Bool.and_eq_true] at h
  obtain ⟨h1, h2, h3⟩ := h
  obtain ⟨la, c, t, hl, hc⟩ := dot_all h2
  obtain ⟨da, e, u, hd, he⟩ := dot_all h3
  have hlen : (addrTextA (n, l, d)).length ≤ 16384 := by
    obtain ⟨m1, m2, m3⟩ := right_len hr
    have := addr_text_len (n, l, d)
    omega
  replace la : l.all (orDotA atomC) = true := la
  replace da : d.all (orDotA domC) = true := da
  replace hl : l = c :: t := hl
  have hread : readListA (addrTextA (n, l, d)) = some [(n, l, d)] := by
    unfold readListA addrTextA
    by_cases hn : n = []
    · subst hn
      rw [if_pos rfl, listN]
      have hs : skipA (bareA ([], l, d)) = bareA ([], l, d) := by
        unfold bareA
        show skipA (l ++ 64 :: d) = l ++ 64 :: d
        rw [hl, List.cons_append, atom_skip hc]
      have hb : readBareA (bareA ([], l, d)) = some (([], l, d), []) := by
        have := bare_read l d [] la da (fun c t h => by cases h)
        rw [List.append_nil] at this
        exact this
      rw [hs]
      unfold readAddrA
      rw [hb]
      show (if rightA ([], l, d) = false then none else if skipA [] = [] then some ([] ++ [([], l, d)]) else _) = _
      rw [hr, if_neg (by simp), skip_nil, if_pos rfl]
      rfl
    · rw [if_neg hn]
      have e0 : nameTextA n ++ ([32, 60] ++ bareA (n, l, d) ++ [62]) = nameTextA n ++ 32 :: 60 :: (bareA (n, l, d) ++ [62]) := by simp
      obtain ⟨q1, q2, q3⟩ := name_read n (bareA (n, l, d) ++ [62]) hn
      rw [e0, listN, q3]
      have hb : readBareA (skipA (bareA (n, l, d) ++ [62])) = some (([], l, d), [62]) := by
        have := bare_read l d [62] la da (fun c t h => by cases h; decide)
        have e1 : bareA (n, l, d) ++ [62] = l ++ 64 :: (d ++ [62]) := by
          unfold bareA
          simp
        rw [e1, hl, List.cons_append, atom_skip hc, ← List.cons_append, ← hl]
        exact this
      have ha : readAddrA (nameTextA n ++ 32 :: 60 :: (bareA (n, l, d) ++ [62])) = some ((n, l, d), []) := by
        unfold readAddrA
        rw [q2, q1]
        show (match cutA 60 (60 :: (bareA (n, l, d) ++ [62])) with
          | none => none
          | some t => match readBareA (skipA t) with
            | none => none
            | some (a, u) => match cutA 62 (skipA u) with
              | none => none
              | some v => some ((n, a.2.1, a.2.2), v)) = _
        rw [cutA_cons, if_pos rfl]
        show (match readBareA (skipA (bareA (n, l, d) ++ [62])) with
            | none => none
            | some (a, u) => match cutA 62 (skipA u) with
              | none => none
              | some v => some ((n, a.2.1, a.2.2), v)) = _
        rw [hb]
        rfl
      rw [ha]
      show (if rightA (n, l, d) = false then none else if skipA [] = [] then some ([] ++ [(n, l, d)]) else _) = _
      rw [hr, if_neg (by simp), skip_nil, if_pos rfl]
      rfl
  unfold parseA
  rw [if_neg (by omega), hread]
  rfl
theorem mail_back (n l d : TextA) (h : rightA (n, l, d) = true) : mailA (l ++ 64 :: d) = some ([], l, d) := by
  unfold rightA at h
  rw [Bool.and_eq_true, Bool.and_eq_true] at h
  obtain ⟨h1, h2, h3⟩ := h
  obtain ⟨la, c, t, hl, hc⟩ := dot_all h2
  replace la : l.all (orDotA atomC) = true := la
  have hno : l.all (fun c => c != 64) = true := by
    rw [List.all_eq_true] at la ⊢
    intro x hx
    have := la x hx
    rw [bne_iff_ne]
    rintro rfl
    exact absurd this (by decide)
  obtain ⟨a, b⟩ := take_to (p := fun c => c != 64) 64 d (by decide) l hno
  have hr : rightA ([], l, d) = true := by
    unfold rightA
    rw [h2, h3]
    rfl
  unfold mailA
  rw [a, b, cutA_cons, if_pos rfl]
  show (if rightA ([], l, d) = true then some ([], l, d) else none) = _
  rw [if_pos hr]
end Go.Proofs.YtafpifpgfpkckaaDoor
