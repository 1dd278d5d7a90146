/-
  Texts of this proof, put together: Q4F, H10P, Glue, Q4E.
-/
import Derived.Lib.Hide
import Derived.Lib.Strings
import Derived.Lib.Walk
namespace Go.Proofs.YtjikghndoklajaaGreatDoor

def digB (v : Nat) : UInt8 := if v < 10 then UInt8.ofNat (48 + v) else UInt8.ofNat (55 + v)
def undigB (c : UInt8) : Option Nat := if 48 ≤ c.toNat ∧ c.toNat ≤ 57 then some (c.toNat - 48) else if 65 ≤ c.toNat ∧ c.toNat ≤ 70 then some (c.toNat - 55) else none
theorem undig_dig : ∀ v : Nat, v < 16 → undigB (digB v) = some v := by decide +kernel
theorem dig_all : ∀ n : Fin 256, (match undigB (UInt8.ofNat n) with | some v => decide (v < 16) && decide (digB v = UInt8.ofNat n) | none => true) = true := by decide +kernel
theorem dig_undig {c : UInt8} {v : Nat} (h : undigB c = some v) : v < 16 ∧ digB v = c := by
  have := dig_all ⟨c.toNat, c.toNat_lt⟩
  simp only [UInt8.ofNat_toNat, h, Bool.and_eq_true, decide_eq_true_eq] at this
  exact this
theorem dig_range : ∀ v : Nat, v < 16 → (48 ≤ (digB v).toNat ∧ (digB v).toNat ≤ 57) ∨ (65 ≤ (digB v).toNat ∧ (digB v).toNat ≤ 70) := by decide +kernel
def plainQ (c : UInt8) (last : Bool) : Bool := (decide (33 ≤ c.toNat) && decide (c.toNat ≤ 126) && decide (c ≠ 61)) || ((decide (c = 32) || decide (c = 9)) && !last)
def signB (c : UInt8) (last : Bool) : List UInt8 := if plainQ c last then [c] else [61, digB (c.toNat / 16), digB (c.toNat % 16)]
theorem sign_ways (c : UInt8) (last : Bool) : (plainQ c last = true ∧ signB c last = [c]) ∨ (plainQ c last = false ∧ signB c last = [61, digB (c.toNat / 16), digB (c.toNat % 16)]) := by
  unfold signB
  cases plainQ c last
  · exact .inr ⟨rfl, rfl⟩
  · exact .inl ⟨rfl, rfl⟩
theorem sign_len (c : UInt8) (last : Bool) : (signB c last).length = 1 ∨ (signB c last).length = 3 := by
  rcases sign_ways c last with ⟨_, h⟩ | ⟨_, h⟩ <;> rw [h] <;> simp
theorem plain_ne {c : UInt8} {last : Bool} (h : plainQ c last = true) : c ≠ 61 ∧ c ≠ 13 ∧ c ≠ 10 := by
  unfold plainQ at h
  simp only [Bool.or_eq_true, Bool.and_eq_true, decide_eq_true_eq] at h
  rcases h with ⟨⟨h1, h2⟩, h3⟩ | ⟨h1 | h1, _⟩
  · refine ⟨h3, fun e => ?_, fun e => ?_⟩
    · subst e; revert h1; decide
    · subst e; revert h1; decide
  · subst h1; decide
  · subst h1; decide
def tellQ : Nat → List UInt8 → List UInt8
  | _, [] => []
  | n, c :: r => if n + (signB c (decide (r = []))).length > 75 then 61 :: 13 :: 10 :: (signB c (decide (r = [])) ++ tellQ (signB c (decide (r = []))).length r) else signB c (decide (r = [])) ++ tellQ (n + (signB c (decide (r = []))).length) r
def linesQ : List UInt8 → List (List UInt8)
  | [] => [[]]
  | [c] => [[c]]
  | c :: d :: r => if c = 13 ∧ d = 10 then [] :: linesQ r else (match linesQ (d :: r) with
    | [] => [[c]]
    | l :: ls => (c :: l) :: ls)
def joinQ : List (List UInt8) → List UInt8
  | [] => []
  | [l] => l
  | l :: m :: ls => l ++ (13 :: 10 :: joinQ (m :: ls))
def encQ (s : List UInt8) : List UInt8 := joinQ ((linesQ s).map (tellQ 0))
theorem lines_ne : ∀ s : List UInt8, linesQ s ≠ []
  | [] => by simp [linesQ]
  | [c] => by simp [linesQ]
  | c :: d :: r => by
    unfold linesQ
    split
    · simp
    · split <;> simp
theorem lines_cons (c d : UInt8) (r : List UInt8) (h : ¬ (c = 13 ∧ d = 10)) : ∃ l ls, linesQ (d :: r) = l :: ls ∧ linesQ (c :: d :: r) = (c :: l) :: ls := by
  cases hl : linesQ (d :: r) with
  | nil => exact absurd hl (lines_ne _)
  | cons l ls => exact ⟨l, ls, rfl, by rw [linesQ, if_neg h, hl]⟩
theorem join_cons (l : List UInt8) {ls : List (List UInt8)} (h : ls ≠ []) : joinQ (l :: ls) = l ++ (13 :: 10 :: joinQ ls) := by
  cases ls with
  | nil => exact absurd rfl h
  | cons m ls => rfl
theorem lines_end (r : List UInt8) : linesQ (13 :: 10 :: r) = [] :: linesQ r := by simp [linesQ]
theorem join_append : ∀ (a b : List (List UInt8)), a ≠ [] → b ≠ [] → joinQ (a ++ b) = joinQ a ++ (13 :: 10 :: joinQ b)
  | [], _, h, _ => absurd rfl h
  | [l], b, _, hb => by
    rw [List.singleton_append, join_cons l hb]
    rfl
  | l :: m :: a, b, _, hb => by
    have ih := join_append (m :: a) b (by simp) hb
    rw [List.cons_append, join_cons l (by simp), ih, join_cons l (by simp), List.append_assoc]
    rfl
theorem join_lines : ∀ s : List UInt8, joinQ (linesQ s) = s
  | [] => rfl
  | [c] => rfl
  | c :: d :: r => by
    by_cases h : c = 13 ∧ d = 10
    · rw [linesQ, if_pos h, join_cons _ (lines_ne r), join_lines r, h.1, h.2]
      rfl
    · obtain ⟨l, ls, h1, h2⟩ := lines_cons c d r h
      have ih := join_lines (d :: r)
      rw [h1] at ih
      rw [h2]
      cases ls with
      | nil => show c :: l = _; rw [show joinQ [l] = l from rfl] at ih; rw [ih]
      | cons m ls =>
        rw [join_cons _ (by simp)] at ih ⊢
        rw [List.cons_append, ih]

def unQ : List UInt8 → Option (List UInt8)
  | [] => some []
  | c :: r => if c ≠ 61 then (unQ r).map (c :: ·) else
    match r with
    | x :: y :: r' => if x = 13 ∧ y = 10 then unQ r' else
      (match undigB x, undigB y with
        | some a, some b => (unQ r').map (UInt8.ofNat (16 * a + b) :: ·)
        | _, _ => none)
    | _ => none
theorem un_plain {c : UInt8} (h : c ≠ 61) (r : List UInt8) : unQ (c :: r) = (unQ r).map (c :: ·) := by
  rw [unQ.eq_def]
  simp only
  rw [if_pos h]
theorem un_soft (r : List UInt8) : unQ (61 :: 13 :: 10 :: r) = unQ r := by
  rw [unQ.eq_def]
  simp
theorem un_coded (c : UInt8) (r : List UInt8) : unQ (61 :: digB (c.toNat / 16) :: digB (c.toNat % 16) :: r) = (unQ r).map (c :: ·) := by
  have hc := c.toNat_lt
  have h1 := dig_range (c.toNat / 16) (by omega)
  rw [unQ.eq_def]
  simp only
  rw [if_neg (by simp), if_neg (by
    intro e
    have : (13 : UInt8).toNat = 13 := rfl
    have := congrArg UInt8.toNat e.1
    omega), undig_dig _ (by omega), undig_dig _ (by omega)]
  simp only
  have : UInt8.ofNat (16 * (c.toNat / 16) + c.toNat % 16) = c := by
    rw [show 16 * (c.toNat / 16) + c.toNat % 16 = c.toNat by omega, UInt8.ofNat_toNat]
  rw [this]
theorem un_sign (c : UInt8) (last : Bool) (r : List UInt8) : unQ (signB c last ++ r) = (unQ r).map (c :: ·) := by
  rcases sign_ways c last with ⟨hp, h⟩ | ⟨_, h⟩
  · rw [h]
    exact un_plain (plain_ne hp).1 r
  · rw [h]
    exact un_coded c r
theorem un_tell (t : List UInt8) : ∀ (l : List UInt8) (n : Nat), unQ (tellQ n l ++ t) = (unQ t).map (l ++ ·)
  | [], n => by
    rw [tellQ]
    cases h : unQ t <;> simp [h]
  | c :: r, n => by
    rw [tellQ]
    split
    · rw [List.cons_append, List.cons_append, List.cons_append, un_soft, List.append_assoc, un_sign, un_tell t r]
      cases unQ t <;> rfl
    · rw [List.append_assoc, un_sign, un_tell t r]
      cases unQ t <;> rfl
theorem un_join : ∀ ls : List (List UInt8), unQ (joinQ (ls.map (tellQ 0))) = some (joinQ ls)
  | [] => rfl
  | [l] => by
    show unQ (tellQ 0 l) = some l
    have := un_tell [] l 0
    rw [List.append_nil] at this
    rw [this]
    simp [unQ]
  | l :: m :: ls => by
    have ih := un_join (m :: ls)
    rw [List.map_cons, join_cons _ (by simp), un_tell, un_plain (by decide), un_plain (by decide), ih]
    show some (l ++ 13 :: 10 :: joinQ (m :: ls)) = _
    rw [join_cons l (ls := m :: ls) (by simp)]
theorem un_enc (s : List UInt8) : unQ (encQ s) = some s := by
  unfold encQ
  rw [un_join, join_lines]
def decQ (t : List UInt8) : Option (List UInt8) := match unQ t with
  | some s => if encQ s = t then some s else none
  | none => none
theorem decQ_enc (s : List UInt8) : decQ (encQ s) = some s := by
  unfold decQ
  rw [un_enc]
  simp
theorem encQ_dec {t s : List UInt8} (h : decQ t = some s) : encQ s = t := by
  unfold decQ at h
  cases hu : unQ t with
  | none => rw [hu] at h; cases h
  | some r =>
    rw [hu] at h
    simp only at h
    by_cases e : encQ r = t
    · rw [if_pos e] at h
      cases h
      exact e
    · rw [if_neg e] at h
      cases h
theorem decQ_only {t : List UInt8} {r : Option (List UInt8)} (h1 : ∀ s, r = some s → encQ s = t) (h2 : ∀ s, encQ s = t → r = some s) : r = decQ t := by
  cases hd : decQ t with
  | some s => exact h2 s (encQ_dec hd)
  | none =>
    cases r with
    | none => rfl
    | some s =>
      have := decQ_enc s
      rw [h1 s rfl, hd] at this
      cases this
end Go.Proofs.YtjikghndoklajaaGreatDoor
namespace Go.Proofs.YtjikghndoklajaaGreatDoor

abbrev TextH := List UInt8
abbrev FieldH := TextH × TextH
def blankH (c : UInt8) : Bool := c == 32 || c == 9
structure RightH (f : FieldH) : Prop where
  n1 : f.1 ≠ []
  n64 : f.1.length ≤ 64
  name : ∀ c ∈ f.1, 33 ≤ c.toNat ∧ c.toNat ≤ 126 ∧ c ≠ 58
  body : ∀ c ∈ f.2, c ≠ 0 ∧ c ≠ 10 ∧ c ≠ 13
  first : ∀ c r, f.2 = c :: r → blankH c = false
  last : ∀ c r, f.2 = r ++ [c] → blankH c = false
def wordsH : TextH → TextH × List TextH
  | [] => ([], [])
  | c :: r => if c = 32 then ([], (wordsH r).1 :: (wordsH r).2) else (c :: (wordsH r).1, (wordsH r).2)
def tailH (ws : List TextH) : TextH := ws.flatMap fun w => 32 :: w
theorem words_join : ∀ b : TextH, (wordsH b).1 ++ tailH (wordsH b).2 = b
  | [] => rfl
  | c :: r => by
    have ih := words_join r
    unfold wordsH
    split
    · rename_i h
      show [] ++ (32 :: (wordsH r).1 ++ tailH (wordsH r).2) = _
      rw [List.nil_append, List.cons_append, ih, h]
    · show c :: ((wordsH r).1 ++ tailH (wordsH r).2) = _
      rw [ih]
def foldH : Nat → List TextH → TextH × List TextH
  | _, [] => ([], [])
  | n, w :: ws =>
    if w ≠ [] ∧ 78 < n + 1 + w.length then ([], (32 :: (w ++ (foldH (1 + w.length) ws).1)) :: (foldH (1 + w.length) ws).2)
    else (32 :: (w ++ (foldH (n + 1 + w.length) ws).1), (foldH (n + 1 + w.length) ws).2)
theorem fold_flat : ∀ (ws : List TextH) (n : Nat), (foldH n ws).1 ++ (foldH n ws).2.flatten = tailH ws
  | [], n => rfl
  | w :: ws, n => by
    have e : tailH (w :: ws) = 32 :: (w ++ tailH ws) := rfl
    unfold foldH
    rw [e]
    split
    · have ih := fold_flat ws (1 + w.length)
      show [] ++ ((32 :: (w ++ (foldH (1 + w.length) ws).1)) ++ (foldH (1 + w.length) ws).2.flatten) = _
      rw [List.nil_append, List.cons_append, List.append_assoc, ih]
    · have ih := fold_flat ws (n + 1 + w.length)
      show (32 :: (w ++ (foldH (n + 1 + w.length) ws).1)) ++ (foldH (n + 1 + w.length) ws).2.flatten = _
      rw [List.cons_append, List.append_assoc, ih]
theorem fold_conts : ∀ (ws : List TextH) (n : Nat), ∀ x ∈ (foldH n ws).2, ∃ y, x = 32 :: y
  | [], n, x, h => by cases h
  | w :: ws, n, x, h => by
    unfold foldH at h
    split at h
    · rcases List.mem_cons.1 h with rfl | h
      · exact ⟨_, rfl⟩
      · exact fold_conts ws _ x h
    · exact fold_conts ws _ x h
def linesH (f : FieldH) : List TextH :=
  if f.2 = [] then [f.1 ++ [58]]
  else (f.1 ++ 58 :: 32 :: ((wordsH f.2).1 ++ (foldH (f.1.length + 2 + (wordsH f.2).1.length) (wordsH f.2).2).1)) :: (foldH (f.1.length + 2 + (wordsH f.2).1.length) (wordsH f.2).2).2
def wholeH (f : FieldH) : TextH := f.1 ++ 58 :: (if f.2 = [] then [] else 32 :: f.2)
theorem lines_flat (f : FieldH) : (linesH f).flatten = wholeH f := by
  unfold linesH wholeH
  split
  · simp
  · have h1 := fold_flat (wordsH f.2).2 (f.1.length + 2 + (wordsH f.2).1.length)
    have h2 := words_join f.2
    rw [List.flatten_cons, List.append_assoc, List.cons_append, List.cons_append, List.append_assoc, h1, h2]
theorem lines_shape (f : FieldH) : ∃ x xs, linesH f = (f.1 ++ 58 :: x) :: xs ∧ ∀ y ∈ xs, ∃ z, y = 32 :: z := by
  unfold linesH
  split
  · exact ⟨[], [], rfl, fun y h => by cases h⟩
  · exact ⟨_, _, rfl, fold_conts _ _⟩
theorem linesH_clean {f : FieldH} (h : RightH f) : ∀ x ∈ linesH f, ∀ c ∈ x, c ≠ 13 := fun x hx c hc => by
  have hm : c ∈ (linesH f).flatten := List.mem_flatten.2 ⟨x, hx, hc⟩
  rw [lines_flat] at hm
  unfold wholeH at hm
  rcases List.mem_append.1 hm with h1 | h1
  · rintro rfl
    have := (h.name _ h1).1
    exact absurd this (by decide)
  · rcases List.mem_cons.1 h1 with rfl | h1
    · decide
    · split at h1
      · cases h1
      · rcases List.mem_cons.1 h1 with rfl | h1
        · decide
        · exact (h.body _ h1).2.2
def endH (ls : List TextH) : TextH := ls.flatMap fun l => l ++ [13, 10]
def headerH (l : List FieldH) : TextH := endH (l.flatMap linesH) ++ [13, 10]
def cutH : TextH → Option (TextH × TextH)
  | [] => none
  | c :: r => if c = 13 ∧ r.head? = some 10 then some ([], r.drop 1) else (cutH r).map fun x => (c :: x.1, x.2)
theorem cut_line : ∀ (l r : TextH), (∀ c ∈ l, c ≠ 13) → cutH (l ++ 13 :: 10 :: r) = some (l, r)
  | [], r, _ => by
    show cutH (13 :: 10 :: r) = _
    unfold cutH
    rw [if_pos ⟨rfl, rfl⟩]
    rfl
  | c :: l, r, h => by
    show cutH (c :: (l ++ 13 :: 10 :: r)) = _
    unfold cutH
    rw [if_neg (fun e => h c (List.mem_cons_self ..) e.1), cut_line l r (fun c hc => h c (List.mem_cons_of_mem _ hc))]
    rfl
def topH : Nat → TextH → Option (List TextH × TextH)
  | 0, _ => none
  | f + 1, s => match cutH s with
    | none => none
    | some ([], r) => some ([], r)
    | some (c :: l, r) => (topH f r).map fun x => ((c :: l) :: x.1, x.2)
theorem top_lines : ∀ (ls : List TextH) (more : TextH) (f : Nat), (∀ l ∈ ls, l ≠ [] ∧ ∀ c ∈ l, c ≠ 13) → ls.length < f → topH f (endH ls ++ 13 :: 10 :: more) = some (ls, more)
  | [], more, f, _, hf => by
    match f, hf with
    | f + 1, _ =>
      show topH (f + 1) (13 :: 10 :: more) = _
      unfold topH
      rw [show cutH (13 :: 10 :: more) = some ([], more) from cut_line [] more (fun c hc => by cases hc)]
  | l :: ls, more, f, h, hf => by
    match f, hf with
    | f + 1, hf =>
      obtain ⟨h1, h2⟩ := h l (List.mem_cons_self ..)
      have ih := top_lines ls more f (fun l hl => h l (List.mem_cons_of_mem _ hl)) (by simp at hf; omega)
      have e : endH (l :: ls) ++ 13 :: 10 :: more = l ++ 13 :: 10 :: (endH ls ++ 13 :: 10 :: more) := by
        unfold endH
        rw [List.flatMap_cons]
        simp
      unfold topH
      rw [e, cut_line l _ h2]
      match l, h1 with
      | c :: l, _ =>
        show (topH f _).map _ = _
        rw [ih]
        rfl
def goesH (l : TextH) : Bool := match l with
  | [] => false
  | c :: _ => blankH c
def joinH : List TextH → List TextH
  | [] => []
  | l :: ls => match joinH ls with
    | js => if goesH (ls.headD []) then (l ++ js.headD []) :: js.drop 1 else l :: js
theorem join_conts : ∀ (xs : List TextH) (l : TextH) (ls : List TextH), (∀ y ∈ xs, goesH y = true) → goesH (ls.headD []) = false → joinH (l :: (xs ++ ls)) = (l ++ xs.flatten) :: joinH ls
  | [], l, ls, _, h => by
    show joinH (l :: ls) = _
    rw [joinH]
    show (if goesH (ls.headD []) = true then _ else _) = _
    rw [if_neg (by rw [h]; decide), List.flatten_nil, List.append_nil]
  | x :: xs, l, ls, hx, h => by
    have ih := join_conts xs x ls (fun y hy => hx y (List.mem_cons_of_mem _ hy)) h
    show joinH (l :: (x :: (xs ++ ls))) = _
    rw [joinH, ih]
    show (if goesH x = true then _ else _) = _
    rw [if_pos (hx x (List.mem_cons_self ..))]
    show (l ++ (x ++ xs.flatten)) :: joinH ls = _
    rw [List.flatten_cons]
theorem name_goes {f : FieldH} (h : RightH f) (x : TextH) : goesH (f.1 ++ x) = false := by
  obtain ⟨n, b⟩ := f
  match n, h.n1 with
  | c :: r, _ =>
    have h1 := (h.name c (List.mem_cons_self ..)).1
    show blankH c = false
    unfold blankH
    rw [Bool.or_eq_false_iff, beq_eq_false_iff_ne, beq_eq_false_iff_ne]
    exact ⟨fun e => by rw [e] at h1; exact absurd h1 (by decide), fun e => by rw [e] at h1; exact absurd h1 (by decide)⟩
theorem join_fields : ∀ l : List FieldH, (∀ f ∈ l, RightH f) → joinH (l.flatMap linesH) = l.map wholeH
  | [], _ => rfl
  | f :: l, h => by
    have ih := join_fields l (fun g hg => h g (List.mem_cons_of_mem _ hg))
    obtain ⟨x, xs, e, hx⟩ := lines_shape f
    have hfl := lines_flat f
    rw [e, List.flatten_cons] at hfl
    rw [List.flatMap_cons, e, List.cons_append, join_conts xs _ _ (fun y hy => by obtain ⟨z, rfl⟩ := hx y hy; rfl), hfl, ih]
    · rfl
    · match l, h with
      | [], _ => rfl
      | g :: l, h =>
        obtain ⟨y, ys, e2, _⟩ := lines_shape g
        rw [List.flatMap_cons, e2]
        exact name_goes (h g (List.mem_cons_of_mem _ (List.mem_cons_self ..))) _
def trimH (t : TextH) : TextH := ((t.dropWhile blankH).reverse.dropWhile blankH).reverse
theorem drop_none {t : TextH} (h : ∀ c r, t = c :: r → blankH c = false) : t.dropWhile blankH = t := by
  match t, h with
  | [], _ => rfl
  | c :: r, h => rw [List.dropWhile_cons, h c r rfl, if_neg (by decide)]
theorem trim_body {b : TextH} (h1 : ∀ c r, b = c :: r → blankH c = false) (h2 : ∀ c r, b = r ++ [c] → blankH c = false) : trimH b = b := by
  unfold trimH
  rw [drop_none h1, drop_none (t := b.reverse) (fun c r e => h2 c r.reverse (by rw [← List.reverse_reverse b, e, List.reverse_cons])), List.reverse_reverse]
def fieldH (w : TextH) : Option FieldH := if 58 ∈ w then some (w.takeWhile (· != 58), trimH ((w.dropWhile (· != 58)).drop 1)) else none
theorem take_name : ∀ (n x : TextH), (∀ c ∈ n, c ≠ 58) → (n ++ 58 :: x).takeWhile (· != 58) = n ∧ (n ++ 58 :: x).dropWhile (· != 58) = 58 :: x
  | [], x, _ => ⟨rfl, rfl⟩
  | c :: n, x, h => by
    obtain ⟨a, b⟩ := take_name n x (fun c hc => h c (List.mem_cons_of_mem _ hc))
    have hc : (c != 58) = true := bne_iff_ne.2 (h c (List.mem_cons_self ..))
    exact ⟨by rw [List.cons_append, List.takeWhile_cons, hc, if_pos rfl, a], by rw [List.cons_append, List.dropWhile_cons, hc, if_pos rfl, b]⟩
theorem field_whole {f : FieldH} (h : RightH f) : fieldH (wholeH f) = some f := by
  unfold fieldH wholeH
  obtain ⟨a, b⟩ := take_name f.1 (if f.2 = [] then [] else 32 :: f.2) (fun c hc => (h.name c hc).2.2)
  rw [if_pos (by simp), a, b]
  show some (f.1, trimH (if f.2 = [] then [] else 32 :: f.2)) = _
  split
  · rename_i e
    rw [show trimH [] = [] from rfl, ← e]
  · have e : trimH (32 :: f.2) = trimH f.2 := by
      unfold trimH
      rw [List.dropWhile_cons, show blankH 32 = true from rfl, if_pos rfl]
    rw [e, trim_body h.first h.last]
theorem fields_back (l : List FieldH) (h : ∀ f ∈ l, RightH f) (more : TextH) (n : Nat) (hn : (l.flatMap linesH).length < n) :
    ∃ ls, topH n (headerH l ++ more) = some (ls, more) ∧ ls = l.flatMap linesH ∧ (joinH ls).map fieldH = l.map some := by
  refine ⟨_, ?_, rfl, ?_⟩
  · unfold headerH
    rw [List.append_assoc]
    exact top_lines _ more n (fun x hx => by
      obtain ⟨f, hf, hx⟩ := List.mem_flatMap.1 hx
      refine ⟨?_, linesH_clean (h f hf) x hx⟩
      obtain ⟨y, ys, e, hy⟩ := lines_shape f
      rw [e] at hx
      rcases List.mem_cons.1 hx with rfl | hx
      · simp
      · obtain ⟨z, rfl⟩ := hy x hx
        simp) hn
  · rw [join_fields l h, List.map_map]
    exact List.map_congr_left fun f hf => field_whole (h f hf)
end Go.Proofs.YtjikghndoklajaaGreatDoor
namespace Go.Proofs.YtjikghndoklajaaGreatDoor

def textQ (l : List UInt8) : ByteArray := ⟨l.toArray⟩
theorem cut_text (s : ByteArray) (a b : Nat) : s.extract a b = textQ ((s.data.toList.drop a).take (b - a)) := ByteArray.ext (Array.ext' (by rw [Lib.extract_data]; rfl))
end Go.Proofs.YtjikghndoklajaaGreatDoor
namespace Go.Proofs.YtjikghndoklajaaGreatDoor

theorem tell_len : ∀ (l : List UInt8) (n : Nat), (tellQ n l).length ≤ 6 * l.length
  | [], _ => by simp [tellQ]
  | c :: r, n => by
    have h := sign_len c (decide (r = []))
    have i1 := tell_len r (signB c (decide (r = []))).length
    have i2 := tell_len r (n + (signB c (decide (r = []))).length)
    rw [tellQ]
    split
    · simp only [List.length_cons, List.length_append]
      omega
    · simp only [List.length_cons, List.length_append]
      omega
theorem join_tell_len : ∀ ls : List (List UInt8), (joinQ (ls.map (tellQ 0))).length ≤ 6 * (joinQ ls).length
  | [] => by simp [joinQ]
  | [l] => tell_len l 0
  | l :: m :: ls => by
    have ih := join_tell_len (m :: ls)
    have h := tell_len l 0
    rw [List.map_cons, join_cons _ (by simp), join_cons l (ls := m :: ls) (by simp)]
    simp only [List.length_cons, List.length_append]
    omega
theorem encQ_len (s : List UInt8) : (encQ s).length ≤ 6 * s.length := by
  have := join_tell_len (linesQ s)
  rw [join_lines] at this
  exact this
theorem tell_ge : ∀ (l : List UInt8) (n : Nat), l.length ≤ (tellQ n l).length
  | [], _ => by simp
  | c :: r, n => by
    have h := sign_len c (decide (r = []))
    have i1 := tell_ge r (signB c (decide (r = []))).length
    have i2 := tell_ge r (n + (signB c (decide (r = []))).length)
    rw [tellQ]
    split
    · simp only [List.length_cons, List.length_append]
      omega
    · simp only [List.length_cons, List.length_append]
      omega
theorem join_tell_ge : ∀ ls : List (List UInt8), (joinQ ls).length ≤ (joinQ (ls.map (tellQ 0))).length
  | [] => by simp [joinQ]
  | [l] => tell_ge l 0
  | l :: m :: ls => by
    have ih := join_tell_ge (m :: ls)
    have h := tell_ge l 0
    rw [List.map_cons, join_cons l (ls := m :: ls) (by simp), join_cons (tellQ 0 l) (by simp)]
    simp only [List.length_cons, List.length_append]
    omega
theorem encQ_ge (s : List UInt8) : s.length ≤ (encQ s).length := by
  have := join_tell_ge (linesQ s)
  rw [join_lines] at this
  exact this
def uptoQ (ls : List (List UInt8)) (j : Nat) : List UInt8 := joinQ ((ls.take j).map (tellQ 0))
theorem upto_len : ∀ (ls : List (List UInt8)) (j : Nat), (uptoQ ls j).length ≤ (joinQ (ls.map (tellQ 0))).length
  | [], j => by simp [uptoQ]
  | [l], 0 => by simp [uptoQ, joinQ]
  | [l], j + 1 => by simp [uptoQ]
  | l :: m :: ls, 0 => by simp [uptoQ, joinQ]
  | l :: m :: ls, 1 => by
    show (tellQ 0 l).length ≤ _
    rw [List.map_cons, join_cons _ (by simp)]
    simp only [List.length_append]
    omega
  | l :: m :: ls, j + 2 => by
    have ih := upto_len (m :: ls) (j + 1)
    unfold uptoQ at ih ⊢
    rw [List.take_succ_cons, List.map_cons, List.map_cons, join_cons _ (by simp), join_cons _ (by simp)]
    simp only [List.length_append, List.length_cons] at ih ⊢
    omega
end Go.Proofs.YtjikghndoklajaaGreatDoor
