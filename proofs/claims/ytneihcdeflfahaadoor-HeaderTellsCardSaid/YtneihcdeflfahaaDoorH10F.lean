/-
  A body's words laid one behind the other, as header.layer's closure lays them: the field's lines. Plain facts: no program.
-/
import Derived.Test.YtneihcdeflfahaaDoorHdC
import Derived.Test.YtneihcdeflfahaaDoorW5F
namespace Go.Proofs.YtneihcdeflfahaaDoor

/-- One word more: what was laid, how long the line is, whether none was laid yet, whether no line is too long. -/
def layR10 (s : TextH × Nat × Bool × Bool) (w : TextH) : TextH × Nat × Bool × Bool :=
  (s.1 ++ pieceH s.2.2.1 s.2.1 w, lineH s.2.2.1 s.2.1 w, false, s.2.2.2 && decide (lineH s.2.2.1 s.2.1 w ≤ 998))
def soFarH (acc : TextH) (k : Nat) (ws : List TextH) : TextH × Nat × Bool × Bool := ws.foldl layR10 (acc, k, true, true)
theorem soFarH_snoc (acc : TextH) (k : Nat) (ws : List TextH) (w : TextH) : soFarH acc k (ws ++ [w]) = layR10 (soFarH acc k ws) w := by
  unfold soFarH
  rw [List.foldl_append]
  rfl
theorem dead_runH : ∀ (ws : List TextH) (s : TextH × Nat × Bool × Bool), s.2.2.2 = false → (ws.foldl layR10 s).2.2.2 = false
  | [], s, h => h
  | w :: ws, s, h => by
    rw [List.foldl_cons]
    exact dead_runH ws _ (by unfold layR10; rw [h]; rfl)
theorem soFarH_dead (acc : TextH) (k : Nat) (pre rest : List TextH) (h : (soFarH acc k pre).2.2.2 = false) : (soFarH acc k (pre ++ rest)).2.2.2 = false := by
  unfold soFarH at h ⊢
  rw [List.foldl_append]
  exact dead_runH rest _ h
theorem run_lineH : ∀ (ws : List TextH) (s : TextH × Nat × Bool × Bool), s.2.1 ≤ 998 → (ws.foldl layR10 s).2.2.2 = true → (ws.foldl layR10 s).2.1 ≤ 998
  | [], s, h, _ => h
  | w :: ws, s, h, ho => by
    rw [List.foldl_cons] at ho ⊢
    refine run_lineH ws _ ?_ ho
    cases hs : (layR10 s w).2.2.2 with
    | false =>
      rw [dead_runH ws _ hs] at ho
      cases ho
    | true =>
      unfold layR10 at hs ⊢
      simp only [Bool.and_eq_true, decide_eq_true_eq] at hs
      exact hs.2
theorem soFarH_line {acc : TextH} {k : Nat} {pre : List TextH} (hk : k ≤ 998) (h : (soFarH acc k pre).2.2.2 = true) : (soFarH acc k pre).2.1 ≤ 998 := run_lineH pre _ hk h
theorem piece_len (fr : Bool) (k : Nat) (w : TextH) : (pieceH fr k w).length ≤ w.length + 3 := by
  unfold pieceH
  split <;> simp
def wtH (ws : List TextH) : Nat := (ws.map fun w => w.length + 3).sum
theorem run_lenH : ∀ (ws : List TextH) (s : TextH × Nat × Bool × Bool), (ws.foldl layR10 s).1.length ≤ s.1.length + wtH ws
  | [], s => by simp [wtH]
  | w :: ws, s => by
    rw [List.foldl_cons]
    have ih := run_lenH ws (layR10 s w)
    have h1 : (layR10 s w).1.length = s.1.length + (pieceH s.2.2.1 s.2.1 w).length := by unfold layR10; rw [List.length_append]
    have h2 := piece_len s.2.2.1 s.2.1 w
    unfold wtH at ih ⊢
    rw [List.map_cons, List.sum_cons]
    omega
theorem wt_append (a b : List TextH) : wtH (a ++ b) = wtH a + wtH b := by
  unfold wtH
  rw [List.map_append, List.sum_append]
theorem split_words : ∀ b : TextH, splitB 32 b = (wordsH b).1 :: (wordsH b).2
  | [] => rfl
  | c :: r => by
    have ih := split_words r
    unfold splitB wordsH
    by_cases h : c = 32
    · rw [if_pos h, if_pos h, ih]
    · rw [if_neg h, if_neg h, ih]
      rfl
theorem wt_split : ∀ b : TextH, wtH (splitB 32 b) ≤ 3 * (b.length + 1)
  | [] => by simp [wtH, splitB]
  | c :: r => by
    have ih := wt_split r
    rw [split_words] at ih ⊢
    unfold wordsH
    unfold wtH at ih ⊢
    split <;> simp only [List.map_cons, List.sum_cons, List.length_cons] at ih ⊢
    · simp only [List.length_nil]
      omega
    · omega
theorem piece_bound {b : TextH} {pre rest : List TextH} {x : TextH} (h : splitB 32 b = pre ++ x :: rest) (acc : TextH) (k : Nat) : x.length ≤ 3 * (b.length + 1) ∧ (soFarH acc k pre).1.length ≤ acc.length + 3 * (b.length + 1) ∧ (soFarH acc k pre).1.length + x.length + 3 ≤ acc.length + 3 * (b.length + 1) := by
  have h1 := wt_split b
  rw [h, wt_append] at h1
  have h2 : wtH (x :: rest) = x.length + 3 + wtH rest := by unfold wtH; rw [List.map_cons, List.sum_cons]
  have h3 := run_lenH pre (acc, k, true, true)
  unfold soFarH
  have h4 : ((acc, k, true, true) : TextH × Nat × Bool × Bool).1.length = acc.length := rfl
  omega
/-- What is laid behind so many bytes of a line; and whether no line is too long. -/
def goH : Nat → List TextH → TextH × Bool
  | _, [] => ([], true)
  | k, w :: ws => if w ≠ [] ∧ 78 < k + 1 + w.length then (13 :: 10 :: 32 :: (w ++ (goH (1 + w.length) ws).1), decide (1 + w.length ≤ 998) && (goH (1 + w.length) ws).2)
    else (32 :: (w ++ (goH (k + 1 + w.length) ws).1), decide (k + 1 + w.length ≤ 998) && (goH (k + 1 + w.length) ws).2)
theorem goH_cons (k : Nat) (w : TextH) (ws : List TextH) : goH k (w :: ws) = if w ≠ [] ∧ 78 < k + 1 + w.length then (13 :: 10 :: 32 :: (w ++ (goH (1 + w.length) ws).1), decide (1 + w.length ≤ 998) && (goH (1 + w.length) ws).2)
    else (32 :: (w ++ (goH (k + 1 + w.length) ws).1), decide (k + 1 + w.length ≤ 998) && (goH (k + 1 + w.length) ws).2) := by
  rw [goH]
theorem brk_iff (k : Nat) (w : TextH) : brkH false k w = true ↔ (w ≠ [] ∧ 78 < k + 1 + w.length) := by
  unfold brkH
  simp only [Bool.not_false, Bool.true_and, Bool.and_eq_true, decide_eq_true_eq, Nat.add_assoc]
theorem run_go : ∀ (ws : List TextH) (acc : TextH) (k : Nat) (o : Bool), (ws.foldl layR10 (acc, k, false, o)).1 = acc ++ (goH k ws).1 ∧ (ws.foldl layR10 (acc, k, false, o)).2.2.2 = (o && (goH k ws).2)
  | [], acc, k, o => by simp [goH]
  | w :: ws, acc, k, o => by
    rw [List.foldl_cons]
    have e : layR10 (acc, k, false, o) w = (acc ++ pieceH false k w, lineH false k w, false, o && decide (lineH false k w ≤ 998)) := rfl
    rw [e]
    obtain ⟨i1, i2⟩ := run_go ws (acc ++ pieceH false k w) (lineH false k w) (o && decide (lineH false k w ≤ 998))
    rw [i1, i2, goH_cons]
    by_cases hb : w ≠ [] ∧ 78 < k + 1 + w.length
    · have h1 : brkH false k w = true := (brk_iff k w).2 hb
      have h2 : lineH false k w = 1 + w.length := by unfold lineH; rw [h1, if_pos rfl]; omega
      rw [if_pos hb, h2]
      unfold pieceH
      rw [h1, if_pos rfl]
      exact ⟨by simp, by rw [Bool.and_assoc]⟩
    · have h1 : brkH false k w = false := by
        cases h : brkH false k w with
        | false => rfl
        | true => exact absurd ((brk_iff k w).1 h) hb
      have h2 : lineH false k w = k + 1 + w.length := by unfold lineH; rw [h1, if_neg (by simp)]; omega
      rw [if_neg hb, h2]
      unfold pieceH
      rw [h1, if_neg (by simp)]
      exact ⟨by simp, by rw [Bool.and_assoc]⟩
theorem go_text : ∀ (ws : List TextH) (k : Nat), (goH k ws).1 = (foldH k ws).1 ++ (foldH k ws).2.flatMap fun l => 13 :: 10 :: l
  | [], k => rfl
  | w :: ws, k => by
    unfold goH foldH
    by_cases hb : w ≠ [] ∧ 78 < k + 1 + w.length
    · rw [if_pos hb, if_pos hb]
      have ih := go_text ws (1 + w.length)
      simp only [List.flatMap_cons, List.nil_append, ih]
      simp
    · rw [if_neg hb, if_neg hb]
      have ih := go_text ws (k + 1 + w.length)
      simp only [ih]
      simp
theorem long_cons (l : TextH) (ls : List TextH) : longH (l :: ls) = (decide (998 < l.length) || longH ls) := by
  unfold longH
  rw [List.any_cons]
theorem go_ok : ∀ (ws : List TextH) (k : Nat), k ≤ 998 → (goH k ws).2 = !(decide (998 < k + (foldH k ws).1.length) || longH (foldH k ws).2)
  | [], k, h => by
    unfold goH foldH longH
    simp
    omega
  | w :: ws, k, h => by
    unfold goH foldH
    by_cases hb : w ≠ [] ∧ 78 < k + 1 + w.length
    · rw [if_pos hb, if_pos hb]
      simp only [long_cons, List.length_cons, List.length_append, List.length_nil]
      rw [decide_eq_false (p := 998 < k + 0) (by omega), Bool.false_or]
      by_cases h1 : 1 + w.length ≤ 998
      · rw [go_ok ws _ h1, decide_eq_true h1, Bool.true_and]
        congr 2
        rw [decide_eq_decide]
        omega
      · rw [decide_eq_false h1, Bool.false_and, decide_eq_true (p := 998 < w.length + (foldH (1 + w.length) ws).1.length + 1) (by omega)]
        rfl
    · rw [if_neg hb, if_neg hb]
      simp only [List.length_cons, List.length_append]
      by_cases h1 : k + 1 + w.length ≤ 998
      · rw [go_ok ws _ h1, decide_eq_true h1, Bool.true_and]
        congr 2
        rw [decide_eq_decide]
        omega
      · rw [decide_eq_false h1, Bool.false_and, decide_eq_true (p := 998 < k + (w.length + (foldH (k + 1 + w.length) ws).1.length + 1)) (by omega)]
        rfl
theorem end_cons (l : TextH) (ls : List TextH) : endH (l :: ls) = l ++ [13, 10] ++ endH ls := by
  unfold endH
  rw [List.flatMap_cons]
theorem end_flat : ∀ (ls : List TextH) (x : TextH), x ++ (ls.flatMap fun l => 13 :: 10 :: l) ++ [13, 10] = endH (x :: ls)
  | [], x => by
    rw [end_cons]
    simp [endH]
  | l :: ls, x => by
    have ih := end_flat ls l
    rw [end_cons, ← ih, List.flatMap_cons]
    simp
/-- A field's text, as the closure lays it. -/
theorem lay_text (f : FieldH) (hn : f.1.length ≤ 900) (hb : f.2 ≠ []) (acc : TextH) :
    (soFarH (acc ++ (f.1 ++ [58])) (f.1.length + 1) (splitB 32 f.2)).2.2.2 = !(longH (linesH f)) ∧
    ((soFarH (acc ++ (f.1 ++ [58])) (f.1.length + 1) (splitB 32 f.2)).1 ++ [13, 10] = acc ++ endH (linesH f)) := by
  rw [split_words]
  unfold soFarH linesH
  rw [List.foldl_cons, if_neg hb]
  obtain ⟨w0, hw0⟩ : ∃ w0, (wordsH f.2).1 = w0 := ⟨_, rfl⟩
  obtain ⟨ws, hws⟩ : ∃ ws, (wordsH f.2).2 = ws := ⟨_, rfl⟩
  rw [hw0, hws]
  have e1 : layR10 (acc ++ (f.1 ++ [58]), f.1.length + 1, true, true) w0 = (acc ++ (f.1 ++ [58]) ++ (32 :: w0), f.1.length + 2 + w0.length, false, decide (f.1.length + 2 + w0.length ≤ 998)) := by
    unfold layR10 pieceH lineH brkH
    simp
    omega
  rw [e1]
  obtain ⟨r1, r2⟩ := run_go ws (acc ++ (f.1 ++ [58]) ++ (32 :: w0)) (f.1.length + 2 + w0.length) (decide (f.1.length + 2 + w0.length ≤ 998))
  rw [r1, r2]
  constructor
  · rw [long_cons]
    simp only [List.length_append, List.length_cons]
    by_cases h1 : f.1.length + 2 + w0.length ≤ 998
    · rw [go_ok ws _ h1, decide_eq_true h1, Bool.true_and]
      congr 2
      rw [decide_eq_decide]
      omega
    · rw [decide_eq_false h1, Bool.false_and, decide_eq_true (p := 998 < f.1.length + (w0.length + (foldH (f.1.length + 2 + w0.length) ws).1.length + 1 + 1)) (by omega)]
      rfl
  · rw [← end_flat, go_text]
    simp
theorem lay_none (f : FieldH) (hb : f.2 = []) (acc : TextH) : acc ++ (f.1 ++ [58]) ++ [13, 10] = acc ++ endH (linesH f) := by
  unfold linesH
  rw [if_pos hb, end_cons]
  simp [endH]
theorem long_none (f : FieldH) (hn : f.1.length ≤ 900) (hb : f.2 = []) : longH (linesH f) = false := by
  unfold linesH longH
  rw [if_pos hb]
  simp
  omega
end Go.Proofs.YtneihcdeflfahaaDoor
