/-
  Bytes as quoted printable text, line by line: plain facts, of no program: what is told is read, lines and parts.
-/
import Derived.Lib.Hide
namespace Go.Proofs.YtafpifpgfpkckaaDoor

/-- A digit of four bits. -/
def digB (v : Nat) : UInt8 := if v < 10 then UInt8.ofNat (48 + v) else UInt8.ofNat (55 + v)
/-- A digit's number. -/
def undigB (c : UInt8) : Option Nat := if 48 ≤ c.toNat ∧ c.toNat ≤ 57 then some (c.toNat - 48) else if 65 ≤ c.toNat ∧ c.toNat ≤ 70 then some (c.toNat - 55) else none
theorem undig_dig : ∀ v : Nat, v < 16 → undigB (digB v) = some v := by decide +kernel
theorem dig_all : ∀ n : Fin 256, (match undigB (UInt8.ofNat n) with | some v => decide (v < 16) && decide (digB v = UInt8.ofNat n) | none => true) = true := by decide +kernel
theorem dig_undig {c : UInt8} {v : Nat} (h : undigB c = some v) : v < 16 ∧ digB v = c := by
  have := dig_all ⟨c.toNat, c.toNat_lt⟩
  simp only [UInt8.ofNat_toNat, h, Bool.and_eq_true, decide_eq_true_eq] at this
  exact this
theorem dig_range : ∀ v : Nat, v < 16 → (48 ≤ (digB v).toNat ∧ (digB v).toNat ≤ 57) ∨ (65 ≤ (digB v).toNat ∧ (digB v).toNat ≤ 70) := by decide +kernel
/-- Is a byte told as it is? -/
def plainQ (c : UInt8) (last : Bool) : Bool := (decide (33 ≤ c.toNat) && decide (c.toNat ≤ 126) && decide (c ≠ 61)) || ((decide (c = 32) || decide (c = 9)) && !last)
/-- A byte's sign. -/
def signB (c : UInt8) (last : Bool) : List UInt8 := if plainQ c last then [c] else [61, digB (c.toNat / 16), digB (c.toNat % 16)]
theorem sign_ways (c : UInt8) (last : Bool) : (plainQ c last = true ∧ signB c last = [c]) ∨ (plainQ c last = false ∧ signB c last = [61, digB (c.toNat / 16), digB (c.toNat % 16)]) := by
  unfold signB
  cases plainQ c last
  · exact .inr ⟨rfl, rfl⟩
  · exact .inl ⟨rfl, rfl⟩
theorem sign_len (c : UInt8) (last : Bool) : (signB c last).length = 1 ∨ (signB c last).length = 3 := by
  rcases sign_ways c last with ⟨_, h⟩ | ⟨_, h⟩ <;> rw [h] <;> simp
theorem plain_ne {c : UInt8} {last : Bool} (h : plainQ c last = true) : c ≠ 61 ∧ c ≠ 13 ∧ c ≠ 10 := by
  unfold plainQ at h
  simp only [Bool.or_eq_true, Bool.and_eq_true, decide_eq_true_eq] at h
  rcases h with ⟨⟨h1, h2⟩, h3⟩ | ⟨h1 | h1, _⟩
  · refine ⟨h3, fun e => ?_, fun e => ?_⟩
    · subst e; revert h1; decide
    · subst e; revert h1; decide
  · subst h1; decide
  · subst h1; decide
/-- A line, told; n: how long the told line is by now. -/
def tellQ : Nat → List UInt8 → List UInt8
  | _, [] => []
  | n, c :: r => if n + (signB c (decide (r = []))).length > 75 then 61 :: 13 :: 10 :: (signB c (decide (r = [])) ++ tellQ (signB c (decide (r = []))).length r) else signB c (decide (r = [])) ++ tellQ (n + (signB c (decide (r = []))).length) r
/-- A text's lines. -/
def linesQ : List UInt8 → List (List UInt8)
  | [] => [[]]
  | [c] => [[c]]
  | c :: d :: r => if c = 13 ∧ d = 10 then [] :: linesQ r else (match linesQ (d :: r) with
    | [] => [[c]]
    | l :: ls => (c :: l) :: ls)
/-- Lines with ends between. -/
def joinQ : List (List UInt8) → List UInt8
  | [] => []
  | [l] => l
  | l :: m :: ls => l ++ (13 :: 10 :: joinQ (m :: ls))
/-- A text, told. -/
def encQ (s : List UInt8) : List UInt8 := joinQ ((linesQ s).map (tellQ 0))
theorem lines_ne : ∀ s : List UInt8, linesQ s ≠ []
  | [] => by simp [linesQ]
  | [c] => by simp [linesQ]
  | c :: d :: r => by
    unfold linesQ
    split
    · simp
    · split <;> simp
theorem lines_cons (c d : UInt8) (r : List UInt8) (h : ¬ (c = 13 ∧ d = 10)) : ∃ l ls, linesQ (d :: r) = l :: ls ∧ linesQ (c :: d :: r) = (c :: l) :: ls := by
  cases hl : linesQ (d :: r) with
  | nil => exact absurd hl (lines_ne _)
  | cons l ls => exact ⟨l, ls, rfl, by rw [linesQ, if_neg h, hl]⟩
theorem join_cons (l : List UInt8) {ls : List (List UInt8)} (h : ls ≠ []) : joinQ (l :: ls) = l ++ (13 :: 10 :: joinQ ls) := by
  cases ls with
  | nil => exact absurd rfl h
  | cons m ls => rfl
theorem lines_end (r : List UInt8) : linesQ (13 :: 10 :: r) = [] :: linesQ r := by simp [linesQ]
/-- TEXTS WITH AN END BETWEEN have each one's lines. -/
theorem lines_append (t : List UInt8) : ∀ s : List UInt8, linesQ (s ++ 13 :: 10 :: t) = linesQ s ++ linesQ t
  | [] => by rw [List.nil_append, lines_end]; rfl
  | [c] => by
    show linesQ (c :: 13 :: 10 :: t) = _
    obtain ⟨l, ls, h1, h2⟩ := lines_cons c 13 (10 :: t) (by simp)
    rw [lines_end] at h1
    cases h1
    rw [h2]
    rfl
  | c :: d :: r => by
    by_cases h : c = 13 ∧ d = 10
    · have e : (c :: d :: r) ++ 13 :: 10 :: t = c :: d :: (r ++ 13 :: 10 :: t) := rfl
      rw [e, h.1, h.2, lines_end, lines_end, lines_append t r]
      rfl
    · obtain ⟨l, ls, h1, h2⟩ := lines_cons c d r h
      have ih := lines_append t (d :: r)
      have e : (c :: d :: r) ++ 13 :: 10 :: t = c :: d :: (r ++ 13 :: 10 :: t) := rfl
      have e2 : (d :: r) ++ 13 :: 10 :: t = d :: (r ++ 13 :: 10 :: t) := rfl
      obtain ⟨l2, ls2, h3, h4⟩ := lines_cons c d (r ++ 13 :: 10 :: t) h
      rw [e2, h3, h1] at ih
      rw [e, h4, h2]
      simp only [List.cons_append, List.cons.injEq] at ih
      obtain ⟨rfl, rfl⟩ := ih
      rfl
theorem join_append : ∀ (a b : List (List UInt8)), a ≠ [] → b ≠ [] → joinQ (a ++ b) = joinQ a ++ (13 :: 10 :: joinQ b)
  | [], _, h, _ => absurd rfl h
  | [l], b, _, hb => by
    rw [List.singleton_append, join_cons l hb]
    rfl
  | l :: m :: a, b, _, hb => by
    have ih := join_append (m :: a) b (by simp) hb
    rw [List.cons_append, join_cons l (by simp), ih, join_cons l (by simp), List.append_assoc]
    rfl
/-- PARTS: two texts with an end between are told as each is. -/
theorem enc_parts (s t : List UInt8) : encQ (s ++ 13 :: 10 :: t) = encQ s ++ (13 :: 10 :: encQ t) := by
  unfold encQ
  rw [lines_append, List.map_append, join_append _ _ (by simpa using lines_ne s) (by simpa using lines_ne t)]
/-- A text is its lines with ends between. -/
theorem join_lines : ∀ s : List UInt8, joinQ (linesQ s) = s
  | [] => rfl
  | [c] => rfl
  | c :: d :: r => by
    by_cases h : c = 13 ∧ d = 10
    · rw [linesQ, if_pos h, join_cons _ (lines_ne r), join_lines r, h.1, h.2]
      rfl
    · obtain ⟨l, ls, h1, h2⟩ := lines_cons c d r h
      have ih := join_lines (d :: r)
      rw [h1] at ih
      rw [h2]
      cases ls with
      | nil => show c :: l = _; rw [show joinQ [l] = l from rfl] at ih; rw [ih]
      | cons m ls =>
        rw [join_cons _ (by simp)] at ih ⊢
        rw [List.cons_append, ih]

/-- What reading comes to. -/
def unQ : List UInt8 → Option (List UInt8)
  | [] => some []
  | c :: r => if c ≠ 61 then (unQ r).map (c :: ·) else
    match r with
    | x :: y :: r' => if x = 13 ∧ y = 10 then unQ r' else
      (match undigB x, undigB y with
        | some a, some b => (unQ r').map (UInt8.ofNat (16 * a + b) :: ·)
        | _, _ => none)
    | _ => none
theorem un_plain {c : UInt8} (h : c ≠ 61) (r : List UInt8) : unQ (c :: r) = (unQ r).map (c :: ·) := by
  rw [unQ.eq_def]
  simp only
  rw [if_pos h]
theorem un_soft (r : List UInt8) : unQ (61 :: 13 :: 10 :: r) = unQ r := by
  rw [unQ.eq_def]
  simp
theorem un_coded (c : UInt8) (r : List UInt8) : unQ (61 :: digB (c.toNat / 16) :: digB (c.toNat % 16) :: r) = (unQ r).map (c :: ·) := by
  have hc := c.toNat_lt
  have h1 := dig_range (c.toNat / 16) (by omega)
  rw [unQ.eq_def]
  simp only
  rw [if_neg (by simp), if_neg (by
    intro e
    have : (13 : UInt8).toNat = 13 := rfl
    have := congrArg UInt8.toNat e.1
    omega), undig_dig _ (by omega), undig_dig _ (by omega)]
  simp only
  have : UInt8.ofNat (16 * (c.toNat / 16) + c.toNat % 16) = c := by
    rw [show 16 * (c.toNat / 16) + c.toNat % 16 = c.toNat by omega, UInt8.ofNat_toNat]
  rw [this]
theorem un_sign (c : UInt8) (last : Bool) (r : List UInt8) : unQ (signB c last ++ r) = (unQ r).map (c :: ·) := by
  rcases sign_ways c last with ⟨hp, h⟩ | ⟨_, h⟩
  · rw [h]
    exact un_plain (plain_ne hp).1 r
  · rw [h]
    exact un_coded c r
theorem un_tell (t : List UInt8) : ∀ (l : List UInt8) (n : Nat), unQ (tellQ n l ++ t) = (unQ t).map (l ++ ·)
  | [], n => by
    rw [tellQ]
    cases h : unQ t <;> simp [h]
  | c :: r, n => by
    rw [tellQ]
    split
    · rw [List.cons_append, List.cons_append, List.cons_append, un_soft, List.append_assoc, un_sign, un_tell t r]
      cases unQ t <;> rfl
    · rw [List.append_assoc, un_sign, un_tell t r]
      cases unQ t <;> rfl
theorem un_join : ∀ ls : List (List UInt8), unQ (joinQ (ls.map (tellQ 0))) = some (joinQ ls)
  | [] => rfl
  | [l] => by
    show unQ (tellQ 0 l) = some l
    have := un_tell [] l 0
    rw [List.append_nil] at this
    rw [this]
    simp [unQ]
  | l :: m :: ls => by
    have ih := un_join (m :: ls)
    rw [List.map_cons, join_cons _ (by simp), un_tell, un_plain (by decide), un_plain (by decide), ih]
    show some (l ++ 13 :: 10 :: joinQ (m :: ls)) = _
    rw [join_cons l (ls := m :: ls) (by simp)]
/-- WHAT WAS TOLD IS READ. -/
theorem un_enc (s : List UInt8) : unQ (encQ s) = some s := by
  unfold encQ
  rw [un_join, join_lines]
/-- The text of which t is the told one, or none. -/
def decQ (t : List UInt8) : Option (List UInt8) := match unQ t with
  | some s => if encQ s = t then some s else none
  | none => none
theorem decQ_enc (s : List UInt8) : decQ (encQ s) = some s := by
  unfold decQ
  rw [un_enc]
  simp
theorem encQ_dec {t s : List UInt8} (h : decQ t = some s) : encQ s = t := by
  unfold decQ at h
  cases hu : unQ t with
  | none => rw [hu] at h; cases h
  | some r =>
    rw [hu] at h
    simp only at h
    by_cases e : encQ r = t
    · rw [if_pos e] at h
      cases h
      exact e
    · rw [if_neg e] at h
      cases h
/-- Any way of reading that reads what was told, and tells what it read, is this one. -/
theorem decQ_only {t : List UInt8} {r : Option (List UInt8)} (h1 : ∀ s, r = some s → encQ s = t) (h2 : ∀ s, encQ s = t → r = some s) : r = decQ t := by
  cases hd : decQ t with
  | some s => exact h2 s (encQ_dec hd)
  | none =>
    cases r with
    | none => rfl
    | some s =>
      have := decQ_enc s
      rw [h1 s rfl, hd] at this
      cases this
end Go.Proofs.YtafpifpgfpkckaaDoor
