/-
  Texts of this proof, put together: H10F, H10C.
-/
import Derived.Test.YtjikghndoklajaaGreatDoorZ14
import Derived.Test.YtjikghndoklajaaGreatDoorZ03
import Derived.Test.YtjikghndoklajaaGreatDoorZ12
import Derived.Test.YtjikghndoklajaaGreatDoorZ13
import Derived.Lib.CutLaws
namespace Go.Proofs.YtjikghndoklajaaGreatDoor

def layR10 (s : TextH × Nat × Bool × Bool) (w : TextH) : TextH × Nat × Bool × Bool :=
  (s.1 ++ pieceH s.2.2.1 s.2.1 w, lineH s.2.2.1 s.2.1 w, false, s.2.2.2 && decide (lineH s.2.2.1 s.2.1 w ≤ 998))
def soFarH (acc : TextH) (k : Nat) (ws : List TextH) : TextH × Nat × Bool × Bool := ws.foldl layR10 (acc, k, true, true)
theorem soFarH_snoc (acc : TextH) (k : Nat) (ws : List TextH) (w : TextH) : soFarH acc k (ws ++ [w]) = layR10 (soFarH acc k ws) w := by
  unfold soFarH
  rw [List.foldl_append]
  rfl
theorem dead_runH : ∀ (ws : List TextH) (s : TextH × Nat × Bool × Bool), s.2.2.2 = false → (ws.foldl layR10 s).2.2.2 = false
  | [], s, h => h
  | w :: ws, s, h => by
    rw [List.foldl_cons]
    exact dead_runH ws _ (by unfold layR10; rw [h]; rfl)
theorem soFarH_dead (acc : TextH) (k : Nat) (pre rest : List TextH) (h : (soFarH acc k pre).2.2.2 = false) : (soFarH acc k (pre ++ rest)).2.2.2 = false := by
  unfold soFarH at h ⊢
  rw [List.foldl_append]
  exact dead_runH rest _ h
theorem run_lineH : ∀ (ws : List TextH) (s : TextH × Nat × Bool × Bool), s.2.1 ≤ 998 → (ws.foldl layR10 s).2.2.2 = true → (ws.foldl layR10 s).2.1 ≤ 998
  | [], s, h, _ => h
  | w :: ws, s, h, ho => by
    rw [List.foldl_cons] at ho ⊢
    refine run_lineH ws _ ?_ ho
    cases hs : (layR10 s w).2.2.2 with
    | false =>
      rw [dead_runH ws _ hs] at ho
      cases ho
    | true =>
      unfold layR10 at hs ⊢
      simp only [Bool.and_eq_true, decide_eq_true_eq] at hs
      exact hs.2
theorem soFarH_line {acc : TextH} {k : Nat} {pre : List TextH} (hk : k ≤ 998) (h : (soFarH acc k pre).2.2.2 = true) : (soFarH acc k pre).2.1 ≤ 998 := run_lineH pre _ hk h
theorem piece_len (fr : Bool) (k : Nat) (w : TextH) : (pieceH fr k w).length ≤ w.length + 3 := by
  unfold pieceH
  split <;> simp
def wtH (ws : List TextH) : Nat := (ws.map fun w => w.length + 3).sum
theorem run_lenH : ∀ (ws : List TextH) (s : TextH × Nat × Bool × Bool), (ws.foldl layR10 s).1.length ≤ s.1.length + wtH ws
  | [], s => by simp [wtH]
  | w :: ws, s => by
    rw [List.foldl_cons]
    have ih := run_lenH ws (layR10 s w)
    have h1 : (layR10 s w).1.length = s.1.length + (pieceH s.2.2.1 s.2.1 w).length := by unfold layR10; rw [List.length_append]
    have h2 := piece_len s.2.2.1 s.2.1 w
    unfold wtH at ih ⊢
    rw [List.map_cons, List.sum_cons]
    omega
theorem wt_append (a b : List TextH) : wtH (a ++ b) = wtH a + wtH b := by
  unfold wtH
  rw [List.map_append, List.sum_append]
theorem split_words : ∀ b : TextH, splitB 32 b = (wordsH b).1 :: (wordsH b).2
  | [] => rfl
  | c :: r => by
    have ih := split_words r
    unfold splitB wordsH
    by_cases h : c = 32
    · rw [if_pos h, if_pos h, ih]
    · rw [if_neg h, if_neg h, ih]
      rfl
theorem wt_split : ∀ b : TextH, wtH (splitB 32 b) ≤ 3 * (b.length + 1)
  | [] => by simp [wtH, splitB]
  | c :: r => by
    have ih := wt_split r
    rw [split_words] at ih ⊢
    unfold wordsH
    unfold wtH at ih ⊢
    split <;> simp only [List.map_cons, List.sum_cons, List.length_cons] at ih ⊢
    · simp only [List.length_nil]
      omega
    · omega
theorem piece_bound {b : TextH} {pre rest : List TextH} {x : TextH} (h : splitB 32 b = pre ++ x :: rest) (acc : TextH) (k : Nat) : x.length ≤ 3 * (b.length + 1) ∧ (soFarH acc k pre).1.length ≤ acc.length + 3 * (b.length + 1) ∧ (soFarH acc k pre).1.length + x.length + 3 ≤ acc.length + 3 * (b.length + 1) := by
  have h1 := wt_split b
  rw [h, wt_append] at h1
  have h2 : wtH (x :: rest) = x.length + 3 + wtH rest := by unfold wtH; rw [List.map_cons, List.sum_cons]
  have h3 := run_lenH pre (acc, k, true, true)
  unfold soFarH
  have h4 : ((acc, k, true, true) : TextH × Nat × Bool × Bool).1.length = acc.length := rfl
  omega
def goH : Nat → List TextH → TextH × Bool
  | _, [] => ([], true)
  | k, w :: ws => if w ≠ [] ∧ 78 < k + 1 + w.length then (13 :: 10 :: 32 :: (w ++ (goH (1 + w.length) ws).1), decide (1 + w.length ≤ 998) && (goH (1 + w.length) ws).2)
    else (32 :: (w ++ (goH (k + 1 + w.length) ws).1), decide (k + 1 + w.length ≤ 998) && (goH (k + 1 + w.length) ws).2)
theorem goH_cons (k : Nat) (w : TextH) (ws : List TextH) : goH k (w :: ws) = if w ≠ [] ∧ 78 < k + 1 + w.length then (13 :: 10 :: 32 :: (w ++ (goH (1 + w.length) ws).1), decide (1 + w.length ≤ 998) && (goH (1 + w.length) ws).2)
    else (32 :: (w ++ (goH (k + 1 + w.length) ws).1), decide (k + 1 + w.length ≤ 998) && (goH (k + 1 + w.length) ws).2) := by
  rw [goH]
theorem brk_iff (k : Nat) (w : TextH) : brkH false k w = true ↔ (w ≠ [] ∧ 78 < k + 1 + w.length) := by
  unfold brkH
  simp only [Bool.not_false, Bool.true_and, Bool.and_eq_true, decide_eq_true_eq, Nat.add_assoc]
theorem run_go : ∀ (ws : List TextH) (acc : TextH) (k : Nat) (o : Bool), (ws.foldl layR10 (acc, k, false, o)).1 = acc ++ (goH k ws).1 ∧ (ws.foldl layR10 (acc, k, false, o)).2.2.2 = (o && (goH k ws).2)
  | [], acc, k, o => by simp [goH]
  | w :: ws, acc, k, o => by
    rw [List.foldl_cons]
    have e : layR10 (acc, k, false, o) w = (acc ++ pieceH false k w, lineH false k w, false, o && decide (lineH false k w ≤ 998)) := rfl
    rw [e]
    obtain ⟨i1, i2⟩ := run_go ws (acc ++ pieceH false k w) (lineH false k w) (o && decide (lineH false k w ≤ 998))
    rw [i1, i2, goH_cons]
    by_cases hb : w ≠ [] ∧ 78 < k + 1 + w.length
    · have h1 : brkH false k w = true := (brk_iff k w).2 hb
      have h2 : lineH false k w = 1 + w.length := by unfold lineH; rw [h1, if_pos rfl]; omega
      rw [if_pos hb, h2]
      unfold pieceH
      rw [h1, if_pos rfl]
      exact ⟨by simp, by rw [Bool.and_assoc]⟩
    · have h1 : brkH false k w = false := by
        cases h : brkH false k w with
        | false => rfl
        | true => exact absurd ((brk_iff k w).1 h) hb
      have h2 : lineH false k w = k + 1 + w.length := by unfold lineH; rw [h1, if_neg (by simp)]; omega
      rw [if_neg hb, h2]
      unfold pieceH
      rw [h1, if_neg (by simp)]
      exact ⟨by simp, by rw [Bool.and_assoc]⟩
theorem go_text : ∀ (ws : List TextH) (k : Nat), (goH k ws).1 = (foldH k ws).1 ++ (foldH k ws).2.flatMap fun l => 13 :: 10 :: l
  | [], k => rfl
  | w :: ws, k => by
    unfold goH foldH
    by_cases hb : w ≠ [] ∧ 78 < k + 1 + w.length
    · rw [if_pos hb, if_pos hb]
      have ih := go_text ws (1 + w.length)
      simp only [List.flatMap_cons, List.nil_append, ih]
      simp
    · rw [if_neg hb, if_neg hb]
      have ih := go_text ws (k + 1 + w.length)
      simp only [ih]
      simp
theorem long_cons (l : TextH) (ls : List TextH) : longH (l :: ls) = (decide (998 < l.length) || longH ls) := by
  unfold longH
  rw [List.any_cons]
theorem go_ok : ∀ (ws : List TextH) (k : Nat), k ≤ 998 → (goH k ws).2 = !(decide (998 < k + (foldH k ws).1.length) || longH (foldH k ws).2)
  | [], k, h => by
    unfold goH foldH longH
    simp
    omega
  | w :: ws, k, h => by
    unfold goH foldH
    by_cases hb : w ≠ [] ∧ 78 < k + 1 + w.length
    · rw [if_pos hb, if_pos hb]
      simp only [long_cons, List.length_cons, List.length_append, List.length_nil]
      rw [decide_eq_false (p := 998 < k + 0) (by omega), Bool.false_or]
      by_cases h1 : 1 + w.length ≤ 998
      · rw [go_ok ws _ h1, decide_eq_true h1, Bool.true_and]
        congr 2
        rw [decide_eq_decide]
        omega
      · rw [decide_eq_false h1, Bool.false_and, decide_eq_true (p := 998 < w.length + (foldH (1 + w.length) ws).1.length + 1) (by omega)]
        rfl
    · rw [if_neg hb, if_neg hb]
      simp only [List.length_cons, List.length_append]
      by_cases h1 : k + 1 + w.length ≤ 998
      · rw [go_ok ws _ h1, decide_eq_true h1, Bool.true_and]
        congr 2
        rw [decide_eq_decide]
        omega
      · rw [decide_eq_false h1, Bool.false_and, decide_eq_true (p := 998 < k + (w.length + (foldH (k + 1 + w.length) ws).1.length + 1)) (by omega)]
        rfl
theorem end_cons (l : TextH) (ls : List TextH) : endH (l :: ls) = l ++ [13, 10] ++ endH ls := by
  unfold endH
  rw [List.flatMap_cons]
theorem end_flat : ∀ (ls : List TextH) (x : TextH), x ++ (ls.flatMap fun l => 13 :: 10 :: l) ++ [13, 10] = endH (x :: ls)
  | [], x => by
    rw [end_cons]
    simp [endH]
  | l :: ls, x => by
    have ih := end_flat ls l
    rw [end_cons, ← ih, List.flatMap_cons]
    simp
theorem lay_text (f : FieldH) (_hn : f.1.length ≤ 900) (hb : f.2 ≠ []) (acc : TextH) :
    (soFarH (acc ++ (f.1 ++ [58])) (f.1.length + 1) (splitB 32 f.2)).2.2.2 = !(longH (linesH f)) ∧
    ((soFarH (acc ++ (f.1 ++ [58])) (f.1.length + 1) (splitB 32 f.2)).1 ++ [13, 10] = acc ++ endH (linesH f)) := by
  rw [split_words]
  unfold soFarH linesH
  rw [List.foldl_cons, if_neg hb]
  obtain ⟨w0, hw0⟩ : ∃ w0, (wordsH f.2).1 = w0 := ⟨_, rfl⟩
  obtain ⟨ws, hws⟩ : ∃ ws, (wordsH f.2).2 = ws := ⟨_, rfl⟩
  rw [hw0, hws]
  have e1 : layR10 (acc ++ (f.1 ++ [58]), f.1.length + 1, true, true) w0 = (acc ++ (f.1 ++ [58]) ++ (32 :: w0), f.1.length + 2 + w0.length, false, decide (f.1.length + 2 + w0.length ≤ 998)) := by
    unfold layR10 pieceH lineH brkH
    simp
    omega
  rw [e1]
  obtain ⟨r1, r2⟩ := run_go ws (acc ++ (f.1 ++ [58]) ++ (32 :: w0)) (f.1.length + 2 + w0.length) (decide (f.1.length + 2 + w0.length ≤ 998))
  rw [r1, r2]
  constructor
  · rw [long_cons]
    simp only [List.length_append, List.length_cons]
    by_cases h1 : f.1.length + 2 + w0.length ≤ 998
    · rw [go_ok ws _ h1, decide_eq_true h1, Bool.true_and]
      congr 2
      rw [decide_eq_decide]
      omega
    · rw [decide_eq_false h1, Bool.false_and, decide_eq_true (p := 998 < f.1.length + (w0.length + (foldH (f.1.length + 2 + w0.length) ws).1.length + 1 + 1)) (by omega)]
      rfl
  · rw [← end_flat, go_text]
    simp
theorem lay_none (f : FieldH) (hb : f.2 = []) (acc : TextH) : acc ++ (f.1 ++ [58]) ++ [13, 10] = acc ++ endH (linesH f) := by
  unfold linesH
  rw [if_pos hb, end_cons]
  simp [endH]
theorem long_none (f : FieldH) (hn : f.1.length ≤ 900) (hb : f.2 = []) : longH (linesH f) = false := by
  unfold linesH longH
  rw [if_pos hb]
  simp
  omega
end Go.Proofs.YtjikghndoklajaaGreatDoor
namespace Go.Proofs.YtjikghndoklajaaGreatDoor

def fourH : TextH := [13, 10, 13, 10]
theorem index_cons (c : UInt8) (r p : TextH) : Lib.index (c :: r) p = if List.isPrefixOf p (c :: r) = true then 0 else if Lib.index r p = -1 then -1 else Lib.index r p + 1 := by
  rw [Lib.index]
  by_cases h : List.isPrefixOf p (c :: r) = true
  · rw [if_pos h, if_pos h]
  · rw [if_neg h, if_neg h]
    by_cases h2 : Lib.index r p = -1
    · rw [if_pos h2, if_pos (by simpa using h2)]
    · rw [if_neg h2, if_neg (by simpa using h2)]
theorem four_pre (c : UInt8) (r : TextH) : List.isPrefixOf fourH (c :: r) = true ↔ (c = 13 ∧ r.head? = some 10 ∧ ∃ t, r.drop 1 = 13 :: 10 :: t) := by
  unfold fourH
  rw [List.isPrefixOf_iff_prefix]
  constructor
  · rintro ⟨t, h⟩
    simp only [List.cons_append, List.nil_append, List.cons.injEq] at h
    obtain ⟨rfl, rfl⟩ := h
    exact ⟨rfl, rfl, t, rfl⟩
  · rintro ⟨rfl, h2, t, h3⟩
    cases r with
    | nil => cases h2
    | cons d r =>
      obtain rfl := Option.some.inj h2
      exact ⟨t, by
        have h4 : r = 13 :: 10 :: t := h3
        rw [h4]
        rfl⟩
def startsH (s : TextH) : Prop := ∃ t, s = 13 :: 10 :: t
theorem idx_none : ∀ s : TextH, cutH s = none → Lib.index s fourH = -1
  | [], _ => rfl
  | c :: s, h => by
    unfold cutH at h
    split at h
    · cases h
    · rename_i hn
      have h2 : cutH s = none := by
        cases hc : cutH s with
        | none => rfl
        | some x => rw [hc] at h; cases h
      rw [index_cons, if_neg (fun hp => hn ⟨((four_pre c s).1 hp).1, ((four_pre c s).1 hp).2.1⟩), idx_none s h2, if_pos rfl]
theorem idx_here : ∀ (s l r : TextH), cutH s = some (l, 13 :: 10 :: r) → Lib.index s fourH = (l.length : Int)
  | [], l, r, h => by cases h
  | c :: s, l, r, h => by
    unfold cutH at h
    split at h
    · rename_i hn
      obtain ⟨rfl, h2⟩ := Prod.mk.inj (Option.some.inj h)
      rw [index_cons, if_pos ((four_pre c s).2 ⟨hn.1, hn.2, r, h2⟩)]
      rfl
    · rename_i hn
      cases hc : cutH s with
      | none => rw [hc] at h; cases h
      | some x =>
        rw [hc] at h
        obtain ⟨rfl, h2⟩ := Prod.mk.inj (Option.some.inj h)
        have ih := idx_here s x.1 r (by rw [hc, ← h2])
        rw [index_cons, if_neg (fun hp => hn ⟨((four_pre c s).1 hp).1, ((four_pre c s).1 hp).2.1⟩), ih, if_neg (by omega), List.length_cons]
        push_cast
        rfl
theorem idx_skip : ∀ (s l r : TextH), cutH s = some (l, r) → ¬ startsH r → Lib.index s fourH = if Lib.index r fourH = -1 then -1 else Lib.index r fourH + (l.length + 2)
  | [], l, r, h, _ => by cases h
  | c :: s, l, r, h, hr => by
    unfold cutH at h
    have hge := Lib.index_ge r fourH
    split at h
    · rename_i hn
      obtain ⟨rfl, h2⟩ := Prod.mk.inj (Option.some.inj h)
      rw [index_cons, if_neg (fun hp => by
        obtain ⟨_, _, t, ht⟩ := (four_pre c s).1 hp
        exact hr ⟨t, by rw [← h2, ht]⟩)]
      cases s with
      | nil => cases hn.2
      | cons d s =>
        have hd : d = 10 := Option.some.inj hn.2
        have h3 : s = r := h2
        subst h3
        have e2 : Lib.index (d :: s) fourH = if Lib.index s fourH = -1 then -1 else Lib.index s fourH + 1 := by
          rw [index_cons, if_neg (fun hp => by
            have := ((four_pre d s).1 hp).1
            rw [hd] at this
            cases this)]
        rw [e2]
        by_cases h4 : Lib.index s fourH = -1
        · rw [if_pos h4, if_pos rfl, if_pos h4]
        · rw [if_neg h4, if_neg (by omega), if_neg h4]
          show _ = Lib.index s fourH + ((([] : TextH).length : Int) + 2)
          simp
          omega
    · rename_i hn
      cases hc : cutH s with
      | none => rw [hc] at h; cases h
      | some x =>
        rw [hc] at h
        obtain ⟨rfl, h2⟩ := Prod.mk.inj (Option.some.inj h)
        have ih := idx_skip s x.1 r (by rw [hc, ← h2]) hr
        rw [index_cons, if_neg (fun hp => hn ⟨((four_pre c s).1 hp).1, ((four_pre c s).1 hp).2.1⟩), ih]
        by_cases h4 : Lib.index r fourH = -1
        · rw [if_pos h4, if_pos rfl, if_pos h4]
        · rw [if_neg h4, if_neg (by omega), if_neg h4, List.length_cons]
          push_cast
          omega
theorem cutH_eq : ∀ (s l r : TextH), cutH s = some (l, r) → s = l ++ 13 :: 10 :: r ∧ linesQ s = l :: linesQ r ∧ linesQ (l ++ [13, 10]) = [l, []]
  | [], l, r, h => by cases h
  | c :: s, l, r, h => by
    unfold cutH at h
    split at h
    · rename_i hn
      obtain ⟨rfl, h2⟩ := Prod.mk.inj (Option.some.inj h)
      cases s with
      | nil => cases hn.2
      | cons d s =>
        obtain rfl := Option.some.inj hn.2
        obtain rfl := hn.1
        have h3 : s = r := h2
        subst h3
        exact ⟨rfl, lines_end _, lines_end []⟩
    · rename_i hn
      cases hc : cutH s with
      | none => rw [hc] at h; cases h
      | some x =>
        rw [hc] at h
        obtain ⟨rfl, h2⟩ := Prod.mk.inj (Option.some.inj h)
        obtain ⟨i1, i2, i3⟩ := cutH_eq s x.1 r (by rw [hc, ← h2])
        refine ⟨by rw [i1]; rfl, ?_, ?_⟩
        · cases s with
          | nil => cases hc
          | cons d s =>
            obtain ⟨l', ls, h3, h4⟩ := lines_cons c d s (fun e => hn ⟨e.1, by rw [e.2]; rfl⟩)
            rw [h4]
            rw [i2] at h3
            obtain ⟨rfl, rfl⟩ := List.cons.inj h3
            rfl
        · cases hx : x.1 ++ [13, 10] with
          | nil => simp at hx
          | cons d t =>
            have hd : ¬ (c = 13 ∧ d = 10) := fun e => by
              cases hx1 : x.1 with
              | nil =>
                rw [hx1] at hx
                have := (List.cons.inj hx).1
                rw [e.2] at this
                cases this
              | cons a b =>
                rw [hx1] at hx i1
                have h5 := (List.cons.inj hx).1
                exact hn ⟨e.1, by rw [i1, ← e.2, ← h5]; rfl⟩
            obtain ⟨l', ls, h3, h4⟩ := lines_cons c d t hd
            show linesQ (c :: (x.1 ++ [13, 10])) = _
            rw [hx, h4]
            rw [hx, h3] at i3
            obtain ⟨rfl, rfl⟩ := List.cons.inj i3
            rfl
theorem starts_dec (s : TextH) : startsH s ∨ ¬ startsH s := Classical.em _
theorem top_cut : ∀ (f : Nat) (s : TextH), s.length < f → ¬ startsH s → (Lib.index s fourH = -1 ∧ topH f s = none) ∨
    ∃ (i : Nat) (ls : List TextH), Lib.index s fourH = i ∧ i + 4 ≤ s.length ∧ topH f s = some (ls, s.drop (i + 4)) ∧ linesQ (s.take (i + 2)) = ls ++ [[]] ∧ (∀ l ∈ ls, l ≠ [])
  | 0, s, h, _ => by omega
  | f + 1, s, h, hs => by
    cases hc : cutH s with
    | none =>
      refine .inl ⟨idx_none s hc, ?_⟩
      unfold topH
      rw [hc]
    | some x =>
      obtain ⟨l, r⟩ := x
      obtain ⟨e1, e2, e3⟩ := cutH_eq s l r hc
      have hl : l ≠ [] := fun e => hs ⟨r, by rw [e1, e]; rfl⟩
      have htop : topH (f + 1) s = (topH f r).map fun x => (l :: x.1, x.2) := by
        rw [topH, hc]
        cases l with
        | nil => exact absurd rfl hl
        | cons c l => rfl
      have hlen : s.length = l.length + (r.length + 2) := by rw [e1]; simp
      rcases starts_dec r with ⟨t, rfl⟩ | hr
      · refine .inr ⟨l.length, [l], idx_here s l t hc, by simp at hlen; omega, ?_, ?_, fun x hx => by rw [List.mem_singleton.1 hx]; exact hl⟩
        · rw [htop]
          cases f with
          | zero => omega
          | succ f =>
            rw [topH, show cutH (13 :: 10 :: t) = some ([], t) from cut_line [] t (fun c hc => by cases hc)]
            show some ([l], t) = _
            rw [e1, show l ++ 13 :: 10 :: 13 :: 10 :: t = (l ++ [13, 10, 13, 10]) ++ t by simp, List.drop_left' (by simp)]
        · rw [e1, show l ++ 13 :: 10 :: 13 :: 10 :: t = (l ++ [13, 10]) ++ (13 :: 10 :: t) by simp, List.take_left' (by simp), e3]
          rfl
      · have hsk := idx_skip s l r hc hr
        rcases top_cut f r (by omega) hr with ⟨h1, h2⟩ | ⟨i, ls, h1, h2, h3, h4, h5⟩
        · refine .inl ⟨by rw [hsk, if_pos h1], by rw [htop, h2]; rfl⟩
        · refine .inr ⟨i + (l.length + 2), l :: ls, ?_, by omega, ?_, ?_, fun x hx => ?_⟩
          · rw [hsk, if_neg (by omega), h1]
            push_cast
            omega
          · rw [htop, h3]
            show some (l :: ls, _) = _
            rw [e1, show l ++ 13 :: 10 :: r = (l ++ [13, 10]) ++ r by simp, show i + (l.length + 2) + 4 = (l ++ [13, 10]).length + (i + 4) by simp; omega, List.drop_length_add_append]
          · have ht : s.take (i + (l.length + 2) + 2) = (l ++ [13, 10]) ++ r.take (i + 2) := by
              rw [e1, show l ++ 13 :: 10 :: r = (l ++ [13, 10]) ++ r by simp, show i + (l.length + 2) + 2 = (l ++ [13, 10]).length + (i + 2) by simp; omega, List.take_length_add_append]
            rw [ht, lines_app (r.take (i + 2)) (l ++ [13, 10]) [l] [] e3]
            show [l] ++ linesQ (r.take (i + 2)) = _
            rw [h4]
            rfl
          · rcases List.mem_cons.1 hx with rfl | hx
            · exact hl
            · exact h5 x hx
theorem top_starts (f : Nat) (t : TextH) : topH (f + 1) (13 :: 10 :: t) = some ([], t) := by
  rw [topH, show cutH (13 :: 10 :: t) = some ([], t) from cut_line [] t (fun c hc => by cases hc)]

theorem goes_none (ls : List TextH) (h : goesH (ls.headD []) = true) : fieldsH (joinH ls) = none := by
  cases ls with
  | nil => cases h
  | cons l ls =>
    have hj : ∃ x js, joinH (l :: ls) = (l ++ x) :: js := by
      rw [joinH]
      show ∃ x js, (if goesH (ls.headD []) = true then _ else _) = _
      by_cases hg : goesH (ls.headD []) = true
      · rw [if_pos hg]
        exact ⟨_, _, rfl⟩
      · rw [if_neg hg]
        exact ⟨[], _, by rw [List.append_nil]⟩
    obtain ⟨x, js, hj⟩ := hj
    rw [hj, fieldsH]
    cases l with
    | nil => cases h
    | cons c l =>
      have hb : blankH c = true := h
      have hc58 : (c != 58) = true := by
        rw [bne_iff_ne]
        rintro rfl
        cases hb
      have hc33 : nameC c = false := by
        rw [blank_val, decide_eq_true_eq] at hb
        exact nameC_no (.inl (by omega))
      unfold fieldH
      by_cases h58 : (58 : UInt8) ∈ (c :: l ++ x)
      · rw [if_pos h58]
        show (if rightB _ = true then _ else none) = none
        rw [if_neg]
        rw [right_two]
        show ¬ (nameB ((c :: (l ++ x)).takeWhile (· != 58)) && _) = true
        rw [List.takeWhile_cons, hc58, if_pos rfl]
        have : nameB (c :: List.takeWhile (fun x => x != 58) (l ++ x)) = false := by
          unfold nameB
          rw [List.all_cons, hc33, Bool.false_and, Bool.and_false]
        rw [this]
        simp
      · rw [if_neg h58]
theorem parse_plain (s : TextH) : parseH s = match topH (s.length + 1) s with
    | none => (([], []), 2)
    | some (ls, rest) => if longH ls = true then (([], []), 3) else match fieldsH (joinH ls) with
      | none => (([], []), 2)
      | some l => if 64 < l.length then (([], []), 3) else ((l, rest), 0) := by
  unfold parseH
  cases topH (s.length + 1) s with
  | none => rfl
  | some x =>
    obtain ⟨ls, rest⟩ := x
    show (if longH ls = true then _ else _) = (if longH ls = true then _ else _)
    split
    · rfl
    · split
      · rename_i h
        rw [goes_none ls h]
      · rfl
def togH (ls : List TextH) : Nat := 1 + (ls.tail.takeWhile goesH).length
theorem tog_le {ls : List TextH} (h : ls ≠ []) : 1 ≤ togH ls ∧ togH ls ≤ ls.length := by
  cases ls with
  | nil => exact absurd rfl h
  | cons l ls =>
    unfold togH
    have := (List.takeWhile_sublist goesH (l := ls)).length_le
    simp only [List.tail_cons, List.length_cons]
    omega
theorem mem_takeH {α : Type} {p : α → Bool} : ∀ (l : List α) (y : α), y ∈ l.takeWhile p → p y = true
  | [], y, h => by cases h
  | a :: l, y, h => by
    rw [List.takeWhile_cons] at h
    cases ha : p a with
    | false =>
      rw [ha, if_neg (by simp)] at h
      cases h
    | true =>
      rw [ha, if_pos rfl] at h
      rcases List.mem_cons.1 h with rfl | h
      · exact ha
      · exact mem_takeH l y h
theorem tog_join {ls : List TextH} (h : ls ≠ []) : joinH ls = (ls.take (togH ls)).flatten :: joinH (ls.drop (togH ls)) := by
  cases ls with
  | nil => exact absurd rfl h
  | cons l ls =>
    have e := List.takeWhile_append_dropWhile (p := goesH) (l := ls)
    have h1 : goesH ((ls.dropWhile goesH).headD []) = false := by
      cases hd : ls.dropWhile goesH with
      | nil => rfl
      | cons a b =>
        have := List.head_dropWhile_not goesH (l := ls) (by rw [hd]; simp)
        simp only [hd, List.head_cons] at this
        exact this
    have h2 : ∀ y ∈ ls.takeWhile goesH, goesH y = true := fun y hy => mem_takeH _ y hy
    have h3 := join_conts (ls.takeWhile goesH) l (ls.dropWhile goesH) h2 h1
    rw [e] at h3
    rw [h3]
    have h4 : (l :: ls).take (togH (l :: ls)) = l :: ls.takeWhile goesH := by
      unfold togH
      rw [Nat.add_comm, List.tail_cons, List.take_succ_cons]
      congr 1
      conv => lhs; arg 2; rw [← e]
      rw [List.take_left]
    have h5 : (l :: ls).drop (togH (l :: ls)) = ls.dropWhile goesH := by
      unfold togH
      rw [Nat.add_comm, List.tail_cons, List.drop_succ_cons]
      conv => lhs; arg 2; rw [← e]
      rw [List.drop_left]
    rw [h4, h5, List.flatten_cons]
theorem tog_iff (ls : List TextH) (k : Nat) (hk : 1 ≤ k) (hkl : k ≤ ls.length) (hall : ∀ j (h : j < ls.length), 1 ≤ j → j < k → goesH ls[j] = true) (hend : ∀ h : k < ls.length, goesH ls[k] = false) : togH ls = k := by
  cases ls with
  | nil => simp at hkl; omega
  | cons l ls =>
    obtain ⟨m, rfl⟩ : ∃ m, k = m + 1 := ⟨k - 1, by omega⟩
    unfold togH
    rw [List.tail_cons, Nat.add_comm]
    congr 1
    have h1 : ls = ls.take m ++ ls.drop m := (List.take_append_drop m ls).symm
    have h2 : ∀ y ∈ ls.take m, goesH y = true := fun y hy => by
      obtain ⟨j, hj, rfl⟩ := List.mem_iff_getElem.1 hy
      rw [List.length_take] at hj
      rw [List.getElem_take]
      have := hall (j + 1) (by simp; omega) (by omega) (by omega)
      simpa using this
    rw [h1, List.takeWhile_append_of_pos h2, List.length_append, List.length_take]
    have h3 : (ls.drop m).takeWhile goesH = [] := by
      cases hd : ls.drop m with
      | nil => rfl
      | cons a b =>
        have hm : m < ls.length := by
          rcases Nat.lt_or_ge m ls.length with h | h
          · exact h
          · rw [List.drop_of_length_le h] at hd; cases hd
        have := hend (by simp; omega)
        simp only [List.getElem_cons_succ] at this
        rw [List.drop_eq_getElem_cons hm] at hd
        obtain ⟨rfl, _⟩ := List.cons.inj hd
        rw [List.takeWhile_cons, this, if_neg (by simp)]
    rw [h3]
    simp at hkl ⊢
    omega
end Go.Proofs.YtjikghndoklajaaGreatDoor
