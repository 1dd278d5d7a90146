/-
  Encoded words, told by plain functions: a plain body, a body's text, what a text says.
-/
import Derived.Test.YtafpifpgfpkckaaDoorB64F
import Derived.Lib.IndexMore
import Derived.Lib.Strings
namespace Go.Proofs.YtafpifpgfpkckaaDoor

def inP (c : UInt8) : Bool := decide (32 ≤ c.toNat) && decide (c.toNat ≤ 126)
/-- =? stands in it. -/
def hasQ : List UInt8 → Bool
  | [] => false
  | c :: r => List.isPrefixOf [61, 63] (c :: r) || hasQ r
def plainW (l : List UInt8) : Bool := l.all inP && !hasQ l

theorem contains_hasQ : ∀ l : List UInt8, Lib.contains l [61, 63] = hasQ l
  | [] => rfl
  | c :: r => by
    have ih := contains_hasQ r
    have hg := Lib.index_ge r [61, 63]
    unfold Lib.contains at ih ⊢
    unfold Lib.index hasQ
    rw [← ih]
    cases hp : List.isPrefixOf [61, 63] (c :: r) with
    | true => simp
    | false =>
      by_cases h1 : Lib.index r [61, 63] = -1
      · simp [h1]
      · have h2 : (Lib.index r [61, 63] == -1) = false := by simpa using h1
        simp [h2]
        omega
theorem hasQ_append (b : List UInt8) : ∀ a : List UInt8, hasQ a = true → hasQ (a ++ b) = true
  | [], h => by simp [hasQ] at h
  | c :: r, h => by
    unfold hasQ at h
    show hasQ (c :: (r ++ b)) = true
    unfold hasQ
    rw [Bool.or_eq_true] at h ⊢
    rcases h with h | h
    · left
      match r, h with
      | d :: r, h => simpa [List.isPrefixOf] using h
      | [], h => simp [List.isPrefixOf] at h
    · right
      exact hasQ_append b r h
/-- One byte more. -/
theorem hasQ_snoc (c : UInt8) : ∀ l : List UInt8, hasQ (l ++ [c]) = (hasQ l || (decide (l.getLast? = some 61) && decide (c = 63)))
  | [] => by simp [hasQ, List.isPrefixOf]
  | [a] => by
    have h0 : hasQ [c] = false := by simp [hasQ, List.isPrefixOf]
    have h1 : hasQ [a] = false := by simp [hasQ, List.isPrefixOf]
    have e : hasQ ([a] ++ [c]) = (List.isPrefixOf [61, 63] [a, c] || hasQ [c]) := rfl
    rw [e, h0, h1]
    by_cases ha : a = 61
    · by_cases hc : c = 63
      · subst ha; subst hc; decide
      · have : ((63 : UInt8) == c) = false := beq_eq_false_iff_ne.2 (fun e => hc e.symm)
        simp [List.isPrefixOf, this, hc]
    · have : ((61 : UInt8) == a) = false := beq_eq_false_iff_ne.2 (fun e => ha e.symm)
      simp [List.isPrefixOf, this, ha]
  | a :: b :: r => by
    have ih := hasQ_snoc c (b :: r)
    have e : hasQ (a :: b :: r ++ [c]) = (List.isPrefixOf [61, 63] (a :: b :: r) || hasQ (b :: r ++ [c])) := rfl
    have e2 : hasQ (a :: b :: r) = (List.isPrefixOf [61, 63] (a :: b :: r) || hasQ (b :: r)) := rfl
    rw [e, ih, e2, Bool.or_assoc, List.getLast?_cons_cons]
theorem plainW_snoc (l : List UInt8) (c : UInt8) : plainW (l ++ [c]) = (plainW l && (inP c && !(decide (l.getLast? = some 61) && decide (c = 63)))) := by
  unfold plainW
  rw [hasQ_snoc, List.all_append]
  have e : List.all [c] inP = inP c := by simp
  rw [e]
  generalize (decide (l.getLast? = some 61) && decide (c = 63)) = x
  generalize l.all inP = y
  generalize hasQ l = z
  generalize inP c = u
  revert x y z u
  decide
theorem plainW_append {a : List UInt8} (b : List UInt8) (h : plainW a = false) : plainW (a ++ b) = false := by
  unfold plainW at h ⊢
  rw [List.all_append]
  cases h1 : a.all inP with
  | false => simp
  | true =>
    rw [h1] at h
    have h2 : hasQ a = true := by simpa using h
    rw [hasQ_append b a h2]
    simp
theorem plainW_nil : plainW [] = true := rfl
theorem plainW_ne {l : List UInt8} (h : plainW l = false) : l ≠ [] := fun e => by rw [e] at h; exact absurd h (by decide)

/-- What stands ahead of a word's letters. -/
def aheadW : List UInt8 := [61, 63, 85, 84, 70, 45, 56, 63, 66, 63]
/-- An encoded word. -/
def wordW (x : List UInt8) : List UInt8 := aheadW ++ (encB x ++ [63, 61])
/-- Words of 45 bytes each, with a blank between. -/
def wordsW (l : List UInt8) : List UInt8 := if _h : l.length ≤ 45 then wordW l else wordW (l.take 45) ++ 32 :: wordsW (l.drop 45)
termination_by l.length
decreasing_by rw [List.length_drop]; omega
theorem words_short {l : List UInt8} (h : l.length ≤ 45) : wordsW l = wordW l := by rw [wordsW, dif_pos h]
theorem words_long {l : List UInt8} (h : 45 < l.length) : wordsW l = wordW (l.take 45) ++ 32 :: wordsW (l.drop 45) := by rw [wordsW, dif_neg (by omega)]
/-- A body's text. -/
def encW (l : List UInt8) : List UInt8 := if plainW l = true then l else wordsW l

theorem words_append (b : List UInt8) (hb : b ≠ []) : ∀ (n : Nat) (a : List UInt8), a.length = 45 * (n + 1) → wordsW (a ++ b) = wordsW a ++ 32 :: wordsW b
  | 0, a, h => by
    have hp := List.length_pos_iff.2 hb
    rw [words_long (by rw [List.length_append]; omega), words_short (l := a) (by omega), List.take_left' (by omega), List.drop_left' (by omega)]
  | n + 1, a, h => by
    have ih := words_append b hb n (a.drop 45) (by rw [List.length_drop]; omega)
    rw [words_long (l := a ++ b) (by rw [List.length_append]; omega), words_long (l := a) (by omega), List.take_append_of_le_length (by omega), List.drop_append_of_le_length (by omega), ih, List.append_assoc]
    rfl
/-- One word more. -/
theorem words_step (s : List UInt8) (k : Nat) (h : 45 * (k + 1) < s.length) : wordsW (s.take (45 * (k + 1 + 1))) = wordsW (s.take (45 * (k + 1))) ++ 32 :: wordW ((s.drop (45 * (k + 1))).take 45) := by
  have e : s.take (45 * (k + 1 + 1)) = s.take (45 * (k + 1)) ++ (s.drop (45 * (k + 1))).take 45 := by
    rw [show 45 * (k + 1 + 1) = 45 * (k + 1) + 45 by omega, List.take_add]
  rw [e, words_append _ (fun e => by have := congrArg List.length e; rw [List.length_take, List.length_drop] at this; simp at this; omega) k _ (by rw [List.length_take]; omega), words_short (l := (s.drop _).take 45) (by rw [List.length_take]; omega)]
theorem words_first (s : List UInt8) : wordsW (s.take 45) = wordW (s.take 45) := words_short (by rw [List.length_take]; omega)
theorem wordW_len (x : List UInt8) : (wordW x).length = 12 + (x.length + 2) / 3 * 4 := by
  unfold wordW aheadW
  rw [List.length_append, List.length_append, enc_len]
  simp
  omega
theorem words_len (l : List UInt8) : ∀ n, l.length = n → (wordsW l).length ≤ 4 * n + 16 := by
  intro n
  induction n using Nat.strongRecOn generalizing l with
  | ind n ih =>
    intro hn
    by_cases h : l.length ≤ 45
    · rw [words_short h, wordW_len]
      omega
    · rw [words_long (by omega), List.length_append, List.length_cons, wordW_len, List.length_take]
      have := ih (l.drop 45).length (by rw [List.length_drop]; omega) (l.drop 45) rfl
      rw [List.length_drop] at this
      omega
theorem encW_len (l : List UInt8) : (encW l).length ≤ 4 * l.length + 16 := by
  unfold encW
  split
  · omega
  · exact words_len l _ rfl

/-- A letter is between 33 and 126, and no mark of a question. -/
theorem letter_in : ∀ v : Nat, v < 64 → 33 ≤ (letterB v).toNat ∧ (letterB v).toNat ≤ 126 := by decide +kernel
theorem letter_vis {c : UInt8} (h : letterOk c) : 33 ≤ c.toNat ∧ c.toNat ≤ 126 := by
  rcases h with rfl | ⟨v, hv, rfl⟩
  · decide
  · exact letter_in v hv
theorem word_vis (x : List UInt8) : ∀ c ∈ wordW x, 33 ≤ c.toNat ∧ c.toNat ≤ 126 := by
  intro c hc
  unfold wordW at hc
  rcases List.mem_append.1 hc with h | h
  · exact (by decide : ∀ c ∈ aheadW, 33 ≤ c.toNat ∧ c.toNat ≤ 126) c h
  · rcases List.mem_append.1 h with h | h
    · exact letter_vis (enc_ok x c h)
    · exact (by decide : ∀ c ∈ ([63, 61] : List UInt8), 33 ≤ c.toNat ∧ c.toNat ≤ 126) c h
theorem words_vis (l : List UInt8) : ∀ n, l.length = n → ∀ c ∈ wordsW l, 32 ≤ c.toNat ∧ c.toNat ≤ 126 := by
  intro n
  induction n using Nat.strongRecOn generalizing l with
  | ind n ih =>
    intro hn c hc
    by_cases h : l.length ≤ 45
    · rw [words_short h] at hc
      have := word_vis l c hc
      omega
    · rw [words_long (by omega)] at hc
      rcases List.mem_append.1 hc with h1 | h1
      · have := word_vis _ c h1
        omega
      · rcases List.mem_cons.1 h1 with rfl | h1
        · decide
        · exact ih (l.drop 45).length (by rw [List.length_drop]; omega) (l.drop 45) rfl c h1
/-- EACH BYTE OF A TEXT IS 32 TO 126. -/
theorem encW_vis (l : List UInt8) : ∀ c ∈ encW l, 32 ≤ c.toNat ∧ c.toNat ≤ 126 := by
  intro c hc
  unfold encW at hc
  split at hc
  · rename_i h
    unfold plainW at h
    rw [Bool.and_eq_true, List.all_eq_true] at h
    have := h.1 c hc
    unfold inP at this
    simpa using this
  · exact words_vis l _ rfl c hc
theorem words_begin (l : List UInt8) : ∃ r, wordsW l = aheadW ++ r := by
  by_cases h : l.length ≤ 45
  · rw [words_short h]
    exact ⟨_, rfl⟩
  · rw [words_long (by omega)]
    unfold wordW
    rw [List.append_assoc]
    exact ⟨_, rfl⟩
theorem words_end (l : List UInt8) : ∀ n, l.length = n → ∃ r, wordsW l = r ++ [63, 61] := by
  intro n
  induction n using Nat.strongRecOn generalizing l with
  | ind n ih =>
    intro hn
    by_cases h : l.length ≤ 45
    · rw [words_short h]
      exact ⟨aheadW ++ encB l, by unfold wordW; rw [List.append_assoc]⟩
    · obtain ⟨r, hr⟩ := ih (l.drop 45).length (by rw [List.length_drop]; omega) (l.drop 45) rfl
      rw [words_long (by omega), hr]
      exact ⟨wordW (l.take 45) ++ 32 :: r, by rw [List.append_assoc]; rfl⟩
/-- Words are never plain. -/
theorem words_not_plain (l : List UInt8) : plainW (wordsW l) = false := by
  obtain ⟨r, hr⟩ := words_begin l
  rw [hr]
  exact plainW_append r (by decide)

/-! ## A text in pieces -/

/-- A text in pieces, cut at each byte c. -/
def splitB (c : UInt8) : List UInt8 → List (List UInt8)
  | [] => [[]]
  | b :: r => if b = c then [] :: splitB c r else ((b :: (splitB c r).headD []) :: (splitB c r).tail)
theorem splitB_ne (c : UInt8) : ∀ l, splitB c l ≠ []
  | [] => by simp [splitB]
  | b :: r => by unfold splitB; split <;> simp
theorem splitB_cons (c : UInt8) (l : List UInt8) : splitB c l = (splitB c l).headD [] :: (splitB c l).tail := by
  cases h : splitB c l with
  | nil => exact absurd h (splitB_ne c l)
  | cons a r => rfl
theorem splitB_none (c : UInt8) : ∀ l, Lib.indexByte l c = -1 → splitB c l = [l]
  | [], _ => rfl
  | b :: r, h => by
    unfold Lib.indexByte at h
    by_cases e : b = c
    · subst e; simp at h
    · rw [if_neg (by simpa using e)] at h
      have hr : Lib.indexByte r c = -1 := by
        have := Lib.indexByte_ge r c
        split at h
        · rename_i h1; simpa using h1
        · omega
      unfold splitB
      rw [if_neg e, splitB_none c r hr]
      rfl
theorem splitB_some (c : UInt8) : ∀ l (i : Nat), Lib.indexByte l c = i → i < l.length ∧ splitB c l = l.take i :: splitB c (l.drop (i + 1))
  | [], i, h => by simp [Lib.indexByte] at h
  | b :: r, i, h => by
    unfold Lib.indexByte at h
    by_cases e : b = c
    · subst e
      rw [if_pos (by simp)] at h
      obtain rfl : i = 0 := by omega
      refine ⟨by simp, ?_⟩
      rw [splitB, if_pos rfl]
      simp
    · rw [if_neg (by simpa using e)] at h
      have hg := Lib.indexByte_ge r c
      split at h
      · omega
      · rename_i h1
        have h1' : Lib.indexByte r c ≠ -1 := by simpa using h1
        obtain ⟨j, hj⟩ := Int.eq_ofNat_of_zero_le (show 0 ≤ Lib.indexByte r c by omega)
        obtain rfl : i = j + 1 := by omega
        obtain ⟨hlt, hs⟩ := splitB_some c r j hj
        refine ⟨by simp; omega, ?_⟩
        rw [splitB, if_neg e, hs]
        simp
/-- A piece without c, and c behind it. -/
theorem splitB_at (c : UInt8) (r : List UInt8) : ∀ p : List UInt8, c ∉ p → splitB c (p ++ c :: r) = p :: splitB c r
  | [], _ => by simp [splitB]
  | b :: p, h => by
    have ih := splitB_at c r p (fun e => h (List.mem_cons_of_mem _ e))
    show splitB c (b :: (p ++ c :: r)) = _
    rw [splitB, if_neg (fun e => h (by rw [e]; exact List.mem_cons_self)), ih]
    rfl
theorem splitB_one (c : UInt8) : ∀ p : List UInt8, c ∉ p → splitB c p = [p]
  | [], _ => rfl
  | b :: p, h => by
    have ih := splitB_one c p (fun e => h (List.mem_cons_of_mem _ e))
    rw [splitB, if_neg (fun e => h (by rw [e]; exact List.mem_cons_self)), ih]
    rfl
/-- Pieces, with a blank between. -/
def joinW : List (List UInt8) → List UInt8
  | [] => []
  | [p] => p
  | p :: q :: r => p ++ 32 :: joinW (q :: r)
theorem join_split : ∀ l : List UInt8, joinW (splitB 32 l) = l
  | [] => rfl
  | b :: r => by
    have ih := join_split r
    unfold splitB
    rw [splitB_cons 32 r] at ih ⊢
    by_cases e : b = 32
    · rw [if_pos e, joinW, ih, e]
      rfl
    · rw [if_neg e]
      simp only [List.headD_cons, List.tail_cons]
      cases ht : (splitB 32 r).tail with
      | nil =>
        rw [ht] at ih
        rw [joinW] at ih ⊢
        rw [ih]
      | cons q t =>
        rw [ht] at ih
        rw [joinW] at ih ⊢
        rw [List.cons_append, ih]
/-- Pieces of a text together are no longer than it. -/
theorem split_len (c : UInt8) : ∀ l : List UInt8, ((splitB c l).map List.length).sum ≤ l.length
  | [] => by simp [splitB]
  | b :: r => by
    have ih := split_len c r
    unfold splitB
    split
    · simp; omega
    · rw [splitB_cons c r] at ih
      simp at ih ⊢
      omega

/-! ## Reading -/

/-- The letters of a word. -/
def lettersW (p : List UInt8) : Option (List UInt8) :=
  if aheadW.isPrefixOf p = true ∧ List.isSuffixOf [63, 61] (p.drop 10) = true then some ((p.drop 10).take ((p.drop 10).length - 2)) else none
theorem letters_word (l : List UInt8) : lettersW (aheadW ++ (l ++ [63, 61])) = some l := by
  have h10 : (aheadW ++ (l ++ [63, 61])).drop 10 = l ++ [63, 61] := List.drop_left' rfl
  unfold lettersW
  rw [h10, if_pos ⟨List.isPrefixOf_iff_prefix.2 ⟨_, rfl⟩, List.isSuffixOf_iff_suffix.2 ⟨_, rfl⟩⟩, List.take_left' (by simp)]
theorem letters_some {p l : List UInt8} (h : lettersW p = some l) : p = aheadW ++ (l ++ [63, 61]) := by
  unfold lettersW at h
  split at h
  · rename_i hc
    obtain ⟨r, hr⟩ := List.isPrefixOf_iff_prefix.1 hc.1
    have h10 : p.drop 10 = r := by rw [← hr]; exact List.drop_left' rfl
    rw [h10] at h hc
    obtain ⟨q, hq⟩ := List.isSuffixOf_iff_suffix.1 hc.2
    rw [← hq, List.take_left' (by simp)] at h
    cases h
    rw [← hr, ← hq]
  · cases h
/-- What one word says. -/
def readOne (p : List UInt8) : Option (List UInt8) :=
  match lettersW p with
  | none => none
  | some l => (match decB l with
    | none => none
    | some x => if x = [] ∨ 45 < x.length then none else some x)
theorem one_some {p x : List UInt8} (h : readOne p = some x) : p = wordW x ∧ x ≠ [] ∧ x.length ≤ 45 := by
  unfold readOne at h
  cases hl : lettersW p with
  | none => simp [hl] at h
  | some l =>
    cases hd : decB l with
    | none => simp [hl, hd] at h
    | some y =>
      simp only [hl, hd] at h
      split at h
      · cases h
      · rename_i hc
        cases h
        exact ⟨by rw [letters_some hl, ← enc_dec l _ hd]; rfl, fun e => hc (.inl e), by omega⟩
theorem one_word {x : List UInt8} (h0 : x ≠ []) (h1 : x.length ≤ 45) : readOne (wordW x) = some x := by
  unfold readOne wordW
  rw [letters_word, ]
  simp only [dec_enc]
  rw [if_neg (by simp [h0]; omega)]
/-- A word more, behind what was read: the body, and whether it was the last one. -/
def stepW (st : Option (List UInt8 × Bool)) (p : List UInt8) : Option (List UInt8 × Bool) :=
  match st with
  | none => none
  | some (_, true) => none
  | some (b, false) => (match readOne p with
    | none => none
    | some x => some (b ++ x, decide (x.length < 45)))
def readW (ps : List (List UInt8)) : Option (List UInt8 × Bool) := ps.foldl stepW (some ([], false))
theorem foldl_none (f : Option (List UInt8 × Bool) → List UInt8 → Option (List UInt8 × Bool)) (h : ∀ p, f none p = none) : ∀ ps : List (List UInt8), ps.foldl f none = none
  | [] => rfl
  | p :: ps => by rw [List.foldl_cons, h]; exact foldl_none f h ps
theorem step_ended (b : List UInt8) (p : List UInt8) (ps : List (List UInt8)) : (p :: ps).foldl stepW (some (b, true)) = none := foldl_none stepW (fun _ => rfl) ps
theorem read_some : ∀ (ps : List (List UInt8)) (b b' : List UInt8) (e : Bool), ps ≠ [] → ps.foldl stepW (some (b, false)) = some (b', e) → ∃ x, x ≠ [] ∧ b' = b ++ x ∧ joinW ps = wordsW x
  | [], _, _, _, h, _ => absurd rfl h
  | p :: ps, b, b', e, _, h => by
    rw [List.foldl_cons] at h
    cases ho : readOne p with
    | none =>
      have : stepW (some (b, false)) p = none := by simp [stepW, ho]
      rw [this, foldl_none stepW (fun _ => rfl)] at h
      cases h
    | some y =>
      obtain ⟨rfl, hy0, hy1⟩ := one_some ho
      have hs : stepW (some (b, false)) (wordW y) = some (b ++ y, decide (y.length < 45)) := by simp [stepW, ho]
      rw [hs] at h
      cases ps with
      | nil =>
        rw [List.foldl_nil] at h
        cases h
        exact ⟨y, hy0, rfl, by rw [words_short hy1]; rfl⟩
      | cons q ps =>
        by_cases hlt : y.length < 45
        · rw [decide_eq_true hlt, step_ended] at h
          cases h
        · rw [decide_eq_false hlt] at h
          obtain ⟨x, hx0, hx1, hx2⟩ := read_some (q :: ps) (b ++ y) b' e (by simp) h
          refine ⟨y ++ x, by simp [hy0], by rw [hx1, List.append_assoc], ?_⟩
          have hp := List.length_pos_iff.2 hx0
          rw [words_long (by rw [List.length_append]; omega), List.take_left' (by omega), List.drop_left' (by omega), ← hx2]
          rfl
theorem word_no_blank (x : List UInt8) : (32 : UInt8) ∉ wordW x := fun h => by
  have := word_vis x _ h
  have e : (32 : UInt8).toNat = 32 := rfl
  omega
theorem read_words (x : List UInt8) : ∀ (n : Nat) (b : List UInt8), x.length = n → x ≠ [] → ∃ e, (splitB 32 (wordsW x)).foldl stepW (some (b, false)) = some (b ++ x, e) := by
  intro n
  induction n using Nat.strongRecOn generalizing x with
  | ind n ih =>
    intro b hn h0
    by_cases h : x.length ≤ 45
    · rw [words_short h, splitB_one _ _ (word_no_blank x)]
      refine ⟨decide (x.length < 45), ?_⟩
      simp [stepW, one_word h0 h]
    · have ht : (x.take 45).length = 45 := by rw [List.length_take]; omega
      rw [words_long (by omega), splitB_at _ _ _ (word_no_blank _)]
      have ho : readOne (wordW (x.take 45)) = some (x.take 45) := one_word (fun e => by rw [e] at ht; cases ht) (by omega)
      have hs : stepW (some (b, false)) (wordW (x.take 45)) = some (b ++ x.take 45, false) := by simp [stepW, ho, ht]
      obtain ⟨e, he⟩ := ih (x.drop 45).length (by rw [List.length_drop]; omega) (x.drop 45) (b ++ x.take 45) rfl (fun e => by have := congrArg List.length e; rw [List.length_drop] at this; simp at this; omega)
      refine ⟨e, ?_⟩
      rw [List.foldl_cons, hs, he, List.append_assoc, List.take_append_drop]
/-- What a text says, or nothing. -/
def decW (t : List UInt8) : Option (List UInt8) :=
  if plainW t = true then some t else
    match readW (splitB 32 t) with
    | none => none
    | some (b, _) => if plainW b = true then none else some b
/-- WHAT WAS ENCODED IS DECODED. -/
theorem dec_encW (s : List UInt8) : decW (encW s) = some s := by
  unfold encW
  cases hp : plainW s with
  | true =>
    rw [if_pos rfl]
    unfold decW
    rw [if_pos hp]
  | false =>
    rw [if_neg (by simp)]
    unfold decW readW
    obtain ⟨e, he⟩ := read_words s _ [] rfl (plainW_ne hp)
    rw [if_neg (by rw [words_not_plain]; simp), he]
    simp [hp]
/-- WHAT IS DECODED WAS ENCODED JUST SO. -/
theorem enc_decW {t s : List UInt8} (h : decW t = some s) : encW s = t := by
  unfold decW at h
  split at h
  · rename_i hp
    cases h
    unfold encW
    rw [if_pos hp]
  · cases hr : readW (splitB 32 t) with
    | none => simp [hr] at h
    | some be =>
      obtain ⟨b, e⟩ := be
      simp only [hr] at h
      split at h
      · cases h
      · rename_i hp
        cases h
        obtain ⟨x, _, hx1, hx2⟩ := read_some _ [] _ _ (splitB_ne 32 t) hr
        rw [join_split, ] at hx2
        rw [List.nil_append] at hx1
        subst hx1
        unfold encW
        rw [if_neg hp, hx2]
/-- Two texts of which the first is whole words. -/
theorem enc_partsW {a b : List UInt8} {n : Nat} (ha : a.length = 45 * (n + 1)) (h1 : plainW a = false) (h2 : plainW b = false) : encW (a ++ b) = encW a ++ 32 :: encW b := by
  unfold encW
  rw [if_neg (by rw [plainW_append b h1]; simp), if_neg (by rw [h1]; simp), if_neg (by rw [h2]; simp), words_append b (plainW_ne h2) n a ha]

/-! ## The document's reading -/

/-- A word more, whatever it says. -/
def stepR (st : Option (List UInt8)) (p : List UInt8) : Option (List UInt8) :=
  match st with
  | none => none
  | some b => (match lettersW p with
    | none => none
    | some l => (match decB l with
      | none => none
      | some x => some (b ++ x)))
def readR (b : List UInt8) (ps : List (List UInt8)) : Option (List UInt8) := ps.foldl stepR (some b)
theorem readR_none : ∀ ps : List (List UInt8), ps.foldl stepR none = none
  | [] => rfl
  | _ :: ps => readR_none ps
theorem readR_of : ∀ (ps : List (List UInt8)) (b b' : List UInt8) (e e' : Bool), ps.foldl stepW (some (b, e)) = some (b', e') → readR b ps = some b'
  | [], b, b', e, e', h => by
    cases h
    rfl
  | p :: ps, b, b', e, e', h => by
    rw [List.foldl_cons] at h
    cases e with
    | true =>
      have : stepW (some (b, true)) p = none := rfl
      rw [this, foldl_none stepW (fun _ => rfl)] at h
      cases h
    | false =>
      unfold readR
      rw [List.foldl_cons]
      cases ho : readOne p with
      | none =>
        have : stepW (some (b, false)) p = none := by simp [stepW, ho]
        rw [this, foldl_none stepW (fun _ => rfl)] at h
        cases h
      | some y =>
        have hs : stepW (some (b, false)) p = some (b ++ y, decide (y.length < 45)) := by simp [stepW, ho]
        rw [hs] at h
        obtain ⟨rfl, _, _⟩ := one_some ho
        have hr : stepR (some b) (wordW y) = some (b ++ y) := by
          unfold stepR wordW
          rw [letters_word]
          simp only [dec_enc]
        rw [hr]
        exact readR_of ps _ _ _ _ h
/-- The document's Decode: what would be encoded to just this. -/
def decR (t : List UInt8) : Option (List UInt8) :=
  if plainW t = true then some t else
    match readR [] (splitB 32 t) with
    | none => none
    | some b => if plainW b = true ∨ encW b ≠ t then none else some b
theorem decR_eq (t : List UInt8) : decR t = decW t := by
  cases hw : decW t with
  | some s =>
    have he := enc_decW hw
    unfold decR
    unfold decW at hw
    split at hw
    · rename_i hp
      rw [if_pos hp, hw]
    · rename_i hp
      rw [if_neg hp]
      cases hr : readW (splitB 32 t) with
      | none => simp [hr] at hw
      | some be =>
        obtain ⟨b, e⟩ := be
        simp only [hr] at hw
        split at hw
        · cases hw
        · rename_i hq
          cases hw
          rw [readR_of _ _ _ _ _ hr]
          simp only
          rw [if_neg (by simp [hq, he])]
  | none =>
    unfold decR
    by_cases hp : plainW t = true
    · unfold decW at hw
      rw [if_pos hp] at hw
      cases hw
    · rw [if_neg hp]
      cases hr : readR [] (splitB 32 t) with
      | none => rfl
      | some b =>
        simp only
        by_cases hc : plainW b = true ∨ encW b ≠ t
        · rw [if_pos hc]
        · exfalso
          have h1 : encW b = t := Decidable.byContradiction fun h => hc (.inr h)
          rw [← h1, dec_encW] at hw
          cases hw
/-- What a text says is no longer than it. -/
theorem wordW_ge (x : List UInt8) : x.length ≤ (wordW x).length := by rw [wordW_len]; omega
theorem words_ge (l : List UInt8) : ∀ n, l.length = n → l.length ≤ (wordsW l).length := by
  intro n
  induction n using Nat.strongRecOn generalizing l with
  | ind n ih =>
    intro hn
    by_cases h : l.length ≤ 45
    · rw [words_short h]
      exact wordW_ge l
    · have h1 := ih (l.drop 45).length (by rw [List.length_drop]; omega) (l.drop 45) rfl
      have h2 := wordW_ge (l.take 45)
      rw [words_long (by omega), List.length_append, List.length_cons]
      rw [List.length_drop] at h1
      rw [List.length_take] at h2
      omega
theorem encW_ge (l : List UInt8) : l.length ≤ (encW l).length := by
  unfold encW
  split
  · omega
  · exact words_ge l _ rfl
theorem decW_len {t s : List UInt8} (h : decW t = some s) : s.length ≤ t.length := by
  rw [← enc_decW h]
  exact encW_ge s
/-- What was told in k rounds. -/
def soFarW (s : List UInt8) (k : Nat) : List UInt8 := if k = 0 then [] else wordsW (s.take (45 * k))
def betwW (k : Nat) : List UInt8 := if k = 0 then [] else [32]
theorem soFar_step (s : List UInt8) (k : Nat) (h : 45 * k < s.length) : soFarW s (k + 1) = soFarW s k ++ betwW k ++ wordW ((s.drop (45 * k)).take 45) := by
  unfold soFarW betwW
  rw [if_neg (by omega)]
  cases k with
  | zero => simpa using words_first s
  | succ k =>
    rw [if_neg (by omega), if_neg (by omega), words_step s k h, List.append_assoc]
    rfl
theorem soFar_lenW (s : List UInt8) (k : Nat) : (soFarW s k).length ≤ 4 * s.length + 200 := by
  unfold soFarW
  split
  · simp
  · have := words_len (s.take (45 * k)) _ rfl
    rw [List.length_take] at this
    omega
theorem wordW_data (l : List UInt8) : aheadW ++ encB l ++ [63, 61] = wordW l := by unfold wordW; rw [List.append_assoc]
end Go.Proofs.YtafpifpgfpkckaaDoor
