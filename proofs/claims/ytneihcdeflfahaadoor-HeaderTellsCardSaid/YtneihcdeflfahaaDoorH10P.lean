/-
  Header fields as texts: folded, unfolded; what is printed is parsed, whatever stands behind. Plain facts: no program.
-/
import Derived.Test.YtneihcdeflfahaaDoorQ4F
namespace Go.Proofs.YtneihcdeflfahaaDoor

abbrev TextH := List UInt8
abbrev FieldH := TextH × TextH
def blankH (c : UInt8) : Bool := c == 32 || c == 9
/-- A field is right. -/
structure RightH (f : FieldH) : Prop where
  n1 : f.1 ≠ []
  n64 : f.1.length ≤ 64
  name : ∀ c ∈ f.1, 33 ≤ c.toNat ∧ c.toNat ≤ 126 ∧ c ≠ 58
  body : ∀ c ∈ f.2, c ≠ 0 ∧ c ≠ 10 ∧ c ≠ 13
  first : ∀ c r, f.2 = c :: r → blankH c = false
  last : ∀ c r, f.2 = r ++ [c] → blankH c = false
/-- The words of a text: what stands between its blanks. -/
def wordsH : TextH → TextH × List TextH
  | [] => ([], [])
  | c :: r => if c = 32 then ([], (wordsH r).1 :: (wordsH r).2) else (c :: (wordsH r).1, (wordsH r).2)
def tailH (ws : List TextH) : TextH := ws.flatMap fun w => 32 :: w
theorem words_join : ∀ b : TextH, (wordsH b).1 ++ tailH (wordsH b).2 = b
  | [] => rfl
  | c :: r => by
    have ih := words_join r
    unfold wordsH
    split
    · rename_i h
      show [] ++ (32 :: (wordsH r).1 ++ tailH (wordsH r).2) = _
      rw [List.nil_append, List.cons_append, ih, h]
    · show c :: ((wordsH r).1 ++ tailH (wordsH r).2) = _
      rw [ih]
/-- Words laid behind so many bytes of a line: what still goes into it, and the lines behind it. -/
def foldH : Nat → List TextH → TextH × List TextH
  | _, [] => ([], [])
  | n, w :: ws =>
    if w ≠ [] ∧ 78 < n + 1 + w.length then ([], (32 :: (w ++ (foldH (1 + w.length) ws).1)) :: (foldH (1 + w.length) ws).2)
    else (32 :: (w ++ (foldH (n + 1 + w.length) ws).1), (foldH (n + 1 + w.length) ws).2)
theorem fold_flat : ∀ (ws : List TextH) (n : Nat), (foldH n ws).1 ++ (foldH n ws).2.flatten = tailH ws
  | [], n => rfl
  | w :: ws, n => by
    have e : tailH (w :: ws) = 32 :: (w ++ tailH ws) := rfl
    unfold foldH
    rw [e]
    split
    · have ih := fold_flat ws (1 + w.length)
      show [] ++ ((32 :: (w ++ (foldH (1 + w.length) ws).1)) ++ (foldH (1 + w.length) ws).2.flatten) = _
      rw [List.nil_append, List.cons_append, List.append_assoc, ih]
    · have ih := fold_flat ws (n + 1 + w.length)
      show (32 :: (w ++ (foldH (n + 1 + w.length) ws).1)) ++ (foldH (n + 1 + w.length) ws).2.flatten = _
      rw [List.cons_append, List.append_assoc, ih]
theorem fold_conts : ∀ (ws : List TextH) (n : Nat), ∀ x ∈ (foldH n ws).2, ∃ y, x = 32 :: y
  | [], n, x, h => by cases h
  | w :: ws, n, x, h => by
    unfold foldH at h
    split at h
    · rcases List.mem_cons.1 h with rfl | h
      · exact ⟨_, rfl⟩
      · exact fold_conts ws _ x h
    · exact fold_conts ws _ x h
/-- A field's lines. -/
def linesH (f : FieldH) : List TextH :=
  if f.2 = [] then [f.1 ++ [58]]
  else (f.1 ++ 58 :: 32 :: ((wordsH f.2).1 ++ (foldH (f.1.length + 2 + (wordsH f.2).1.length) (wordsH f.2).2).1)) :: (foldH (f.1.length + 2 + (wordsH f.2).1.length) (wordsH f.2).2).2
/-- A field, on one line. -/
def wholeH (f : FieldH) : TextH := f.1 ++ 58 :: (if f.2 = [] then [] else 32 :: f.2)
theorem lines_flat (f : FieldH) : (linesH f).flatten = wholeH f := by
  unfold linesH wholeH
  split
  · simp
  · have h1 := fold_flat (wordsH f.2).2 (f.1.length + 2 + (wordsH f.2).1.length)
    have h2 := words_join f.2
    rw [List.flatten_cons, List.append_assoc, List.cons_append, List.cons_append, List.append_assoc, h1, h2]
theorem lines_shape (f : FieldH) : ∃ x xs, linesH f = (f.1 ++ 58 :: x) :: xs ∧ ∀ y ∈ xs, ∃ z, y = 32 :: z := by
  unfold linesH
  split
  · exact ⟨[], [], rfl, fun y h => by cases h⟩
  · exact ⟨_, _, rfl, fold_conts _ _⟩
theorem linesH_clean {f : FieldH} (h : RightH f) : ∀ x ∈ linesH f, ∀ c ∈ x, c ≠ 13 := fun x hx c hc => by
  have hm : c ∈ (linesH f).flatten := List.mem_flatten.2 ⟨x, hx, hc⟩
  rw [lines_flat] at hm
  unfold wholeH at hm
  rcases List.mem_append.1 hm with h1 | h1
  · rintro rfl
    have := (h.name _ h1).1
    exact absurd this (by decide)
  · rcases List.mem_cons.1 h1 with rfl | h1
    · decide
    · split at h1
      · cases h1
      · rcases List.mem_cons.1 h1 with rfl | h1
        · decide
        · exact (h.body _ h1).2.2
/-- A header's text. -/
def endH (ls : List TextH) : TextH := ls.flatMap fun l => l ++ [13, 10]
def headerH (l : List FieldH) : TextH := endH (l.flatMap linesH) ++ [13, 10]
/-- What stands ahead of the first end, and behind it. -/
def cutH : TextH → Option (TextH × TextH)
  | [] => none
  | c :: r => if c = 13 ∧ r.head? = some 10 then some ([], r.drop 1) else (cutH r).map fun x => (c :: x.1, x.2)
theorem cut_line : ∀ (l r : TextH), (∀ c ∈ l, c ≠ 13) → cutH (l ++ 13 :: 10 :: r) = some (l, r)
  | [], r, _ => by
    show cutH (13 :: 10 :: r) = _
    unfold cutH
    rw [if_pos ⟨rfl, rfl⟩]
    rfl
  | c :: l, r, h => by
    show cutH (c :: (l ++ 13 :: 10 :: r)) = _
    unfold cutH
    rw [if_neg (fun e => h c (List.mem_cons_self ..) e.1), cut_line l r (fun c hc => h c (List.mem_cons_of_mem _ hc))]
    rfl
theorem cut_less : ∀ {s l r : TextH}, cutH s = some (l, r) → r.length < s.length
  | [], l, r, h => by cases h
  | c :: s, l, r, h => by
    unfold cutH at h
    split at h
    · obtain ⟨-, rfl⟩ := Prod.mk.inj (Option.some.inj h)
      simp
      omega
    · cases hc : cutH s with
      | none =>
        rw [hc] at h
        cases h
      | some x =>
        rw [hc] at h
        obtain ⟨-, rfl⟩ := Prod.mk.inj (Option.some.inj h)
        have := cut_less (l := x.1) (r := x.2) hc
        simp
        omega
/-- The lines ahead of the first empty one, and what stands behind it. -/
def topH : Nat → TextH → Option (List TextH × TextH)
  | 0, _ => none
  | f + 1, s => match cutH s with
    | none => none
    | some ([], r) => some ([], r)
    | some (c :: l, r) => (topH f r).map fun x => ((c :: l) :: x.1, x.2)
theorem top_lines : ∀ (ls : List TextH) (more : TextH) (f : Nat), (∀ l ∈ ls, l ≠ [] ∧ ∀ c ∈ l, c ≠ 13) → ls.length < f → topH f (endH ls ++ 13 :: 10 :: more) = some (ls, more)
  | [], more, f, _, hf => by
    match f, hf with
    | f + 1, _ =>
      show topH (f + 1) (13 :: 10 :: more) = _
      unfold topH
      rw [show cutH (13 :: 10 :: more) = some ([], more) from cut_line [] more (fun c hc => by cases hc)]
  | l :: ls, more, f, h, hf => by
    match f, hf with
    | f + 1, hf =>
      obtain ⟨h1, h2⟩ := h l (List.mem_cons_self ..)
      have ih := top_lines ls more f (fun l hl => h l (List.mem_cons_of_mem _ hl)) (by simp at hf; omega)
      have e : endH (l :: ls) ++ 13 :: 10 :: more = l ++ 13 :: 10 :: (endH ls ++ 13 :: 10 :: more) := by
        unfold endH
        rw [List.flatMap_cons]
        simp
      unfold topH
      rw [e, cut_line l _ h2]
      match l, h1 with
      | c :: l, _ =>
        show (topH f _).map _ = _
        rw [ih]
        rfl
/-- Lines that go on, laid to the line ahead of them. -/
def goesH (l : TextH) : Bool := match l with
  | [] => false
  | c :: _ => blankH c
def joinH : List TextH → List TextH
  | [] => []
  | l :: ls => match joinH ls with
    | js => if goesH (ls.headD []) then (l ++ js.headD []) :: js.drop 1 else l :: js
theorem join_conts : ∀ (xs : List TextH) (l : TextH) (ls : List TextH), (∀ y ∈ xs, goesH y = true) → goesH (ls.headD []) = false → joinH (l :: (xs ++ ls)) = (l ++ xs.flatten) :: joinH ls
  | [], l, ls, _, h => by
    show joinH (l :: ls) = _
    rw [joinH]
    show (if goesH (ls.headD []) = true then _ else _) = _
    rw [if_neg (by rw [h]; decide), List.flatten_nil, List.append_nil]
  | x :: xs, l, ls, hx, h => by
    have ih := join_conts xs x ls (fun y hy => hx y (List.mem_cons_of_mem _ hy)) h
    show joinH (l :: (x :: (xs ++ ls))) = _
    rw [joinH, ih]
    show (if goesH x = true then _ else _) = _
    rw [if_pos (hx x (List.mem_cons_self ..))]
    show (l ++ (x ++ xs.flatten)) :: joinH ls = _
    rw [List.flatten_cons]
theorem name_goes {f : FieldH} (h : RightH f) (x : TextH) : goesH (f.1 ++ x) = false := by
  obtain ⟨n, b⟩ := f
  match n, h.n1 with
  | c :: r, _ =>
    have h1 := (h.name c (List.mem_cons_self ..)).1
    show blankH c = false
    unfold blankH
    rw [Bool.or_eq_false_iff, beq_eq_false_iff_ne, beq_eq_false_iff_ne]
    exact ⟨fun e => by rw [e] at h1; exact absurd h1 (by decide), fun e => by rw [e] at h1; exact absurd h1 (by decide)⟩
theorem join_fields : ∀ l : List FieldH, (∀ f ∈ l, RightH f) → joinH (l.flatMap linesH) = l.map wholeH
  | [], _ => rfl
  | f :: l, h => by
    have ih := join_fields l (fun g hg => h g (List.mem_cons_of_mem _ hg))
    obtain ⟨x, xs, e, hx⟩ := lines_shape f
    have hfl := lines_flat f
    rw [e, List.flatten_cons] at hfl
    rw [List.flatMap_cons, e, List.cons_append, join_conts xs _ _ (fun y hy => by obtain ⟨z, rfl⟩ := hx y hy; rfl), hfl, ih]
    · rfl
    · match l, h with
      | [], _ => rfl
      | g :: l, h =>
        obtain ⟨y, ys, e2, _⟩ := lines_shape g
        rw [List.flatMap_cons, e2]
        exact name_goes (h g (List.mem_cons_of_mem _ (List.mem_cons_self ..))) _
/-- A text without blanks at its ends. -/
def trimH (t : TextH) : TextH := ((t.dropWhile blankH).reverse.dropWhile blankH).reverse
theorem drop_none {t : TextH} (h : ∀ c r, t = c :: r → blankH c = false) : t.dropWhile blankH = t := by
  match t, h with
  | [], _ => rfl
  | c :: r, h => rw [List.dropWhile_cons, h c r rfl, if_neg (by decide)]
theorem trim_body {b : TextH} (h1 : ∀ c r, b = c :: r → blankH c = false) (h2 : ∀ c r, b = r ++ [c] → blankH c = false) : trimH b = b := by
  unfold trimH
  rw [drop_none h1, drop_none (t := b.reverse) (fun c r e => h2 c r.reverse (by rw [← List.reverse_reverse b, e, List.reverse_cons])), List.reverse_reverse]
/-- A field of one line. -/
def fieldH (w : TextH) : Option FieldH := if 58 ∈ w then some (w.takeWhile (· != 58), trimH ((w.dropWhile (· != 58)).drop 1)) else none
theorem take_name : ∀ (n x : TextH), (∀ c ∈ n, c ≠ 58) → (n ++ 58 :: x).takeWhile (· != 58) = n ∧ (n ++ 58 :: x).dropWhile (· != 58) = 58 :: x
  | [], x, _ => ⟨rfl, rfl⟩
  | c :: n, x, h => by
    obtain ⟨a, b⟩ := take_name n x (fun c hc => h c (List.mem_cons_of_mem _ hc))
    have hc : (c != 58) = true := bne_iff_ne.2 (h c (List.mem_cons_self ..))
    exact ⟨by rw [List.cons_append, List.takeWhile_cons, hc, if_pos rfl, a], by rw [List.cons_append, List.dropWhile_cons, hc, if_pos rfl, b]⟩
theorem field_whole {f : FieldH} (h : RightH f) : fieldH (wholeH f) = some f := by
  unfold fieldH wholeH
  obtain ⟨a, b⟩ := take_name f.1 (if f.2 = [] then [] else 32 :: f.2) (fun c hc => (h.name c hc).2.2)
  rw [if_pos (by simp), a, b]
  show some (f.1, trimH (if f.2 = [] then [] else 32 :: f.2)) = _
  split
  · rename_i e
    rw [show trimH [] = [] from rfl, ← e]
  · have e : trimH (32 :: f.2) = trimH f.2 := by
      unfold trimH
      rw [List.dropWhile_cons, show blankH 32 = true from rfl, if_pos rfl]
    rw [e, trim_body h.first h.last]
theorem fields_back (l : List FieldH) (h : ∀ f ∈ l, RightH f) (more : TextH) (n : Nat) (hn : (l.flatMap linesH).length < n) :
    ∃ ls, topH n (headerH l ++ more) = some (ls, more) ∧ ls = l.flatMap linesH ∧ (joinH ls).map fieldH = l.map some := by
  refine ⟨_, ?_, rfl, ?_⟩
  · unfold headerH
    rw [List.append_assoc]
    exact top_lines _ more n (fun x hx => by
      obtain ⟨f, hf, hx⟩ := List.mem_flatMap.1 hx
      refine ⟨?_, linesH_clean (h f hf) x hx⟩
      obtain ⟨y, ys, e, hy⟩ := lines_shape f
      rw [e] at hx
      rcases List.mem_cons.1 hx with rfl | hx
      · simp
      · obtain ⟨z, rfl⟩ := hy x hx
        simp) hn
  · rw [join_fields l h, List.map_map]
    exact List.map_congr_left fun f hf => field_whole (h f hf)
end Go.Proofs.YtneihcdeflfahaaDoor
