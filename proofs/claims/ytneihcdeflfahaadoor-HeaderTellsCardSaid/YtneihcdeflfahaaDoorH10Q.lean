/-
  Header fields: the document's Print and Parse as plain functions; what one prints the other reads. Plain facts: no program.
-/
import Derived.Test.YtneihcdeflfahaaDoorH10P
namespace Go.Proofs.YtneihcdeflfahaaDoor

def rightB (f : FieldH) : Bool :=
  decide (1 ≤ f.1.length ∧ f.1.length ≤ 64) && (f.1.all (fun c => decide (33 ≤ c.toNat ∧ c.toNat ≤ 126 ∧ c ≠ 58)) && (f.2.all (fun c => decide (c ≠ 0 ∧ c ≠ 10 ∧ c ≠ 13)) && (!(goesH f.2) && !(goesH f.2.reverse))))
theorem right_iff (f : FieldH) : rightB f = true ↔ RightH f := by
  unfold rightB
  simp only [Bool.and_eq_true, decide_eq_true_eq, List.all_eq_true, Bool.not_eq_true']
  constructor
  · rintro ⟨⟨h1, h2⟩, h3, h4, h5, h6⟩
    refine ⟨fun e => by rw [e] at h1; simp at h1, h2, h3, h4, fun c r e => ?_, fun c r e => ?_⟩
    · rw [e] at h5
      exact h5
    · rw [e, List.reverse_append] at h6
      exact h6
  · intro h
    refine ⟨⟨List.length_pos_iff.2 h.n1, h.n64⟩, h.name, h.body, ?_, ?_⟩
    · cases hb : f.2 with
      | nil => rfl
      | cons c r => exact h.first c r hb
    · cases hb : f.2.reverse with
      | nil => rfl
      | cons c r => exact h.last c r.reverse (by rw [← List.reverse_reverse f.2, hb, List.reverse_cons])
/-- Is a line longer than a line may be? -/
def longH (ls : List TextH) : Bool := ls.any fun l => decide (998 < l.length)
def printH (l : List FieldH) : TextH × Int :=
  if l.all rightB = false then ([], 2) else if 64 < l.length then ([], 3) else if longH (l.flatMap linesH) = true then ([], 3) else (headerH l, 0)
/-- The fields of lines, if all of them are right. -/
def fieldsH : List TextH → Option (List FieldH)
  | [] => some []
  | w :: ws => match fieldH w with
    | none => none
    | some f => if rightB f = true then (fieldsH ws).map (f :: ·) else none
def parseH (s : TextH) : (List FieldH × TextH) × Int :=
  match topH (s.length + 1) s with
  | none => (([], []), 2)
  | some (ls, rest) =>
    if longH ls = true then (([], []), 3) else if goesH (ls.headD []) = true then (([], []), 2)
    else match fieldsH (joinH ls) with
      | none => (([], []), 2)
      | some l => if 64 < l.length then (([], []), 3) else ((l, rest), 0)
theorem fields_all : ∀ l : List FieldH, (∀ f ∈ l, RightH f) → fieldsH (l.map wholeH) = some l
  | [], _ => rfl
  | f :: l, h => by
    have hf := h f (List.mem_cons_self ..)
    show fieldsH (wholeH f :: l.map wholeH) = _
    rw [fieldsH, field_whole hf]
    show (if rightB f = true then _ else _) = _
    rw [if_pos ((right_iff f).2 hf), fields_all l (fun g hg => h g (List.mem_cons_of_mem _ hg))]
    rfl
theorem print_ok {l : List FieldH} (h : (printH l).2 = 0) : (∀ f ∈ l, RightH f) ∧ l.length ≤ 64 ∧ longH (l.flatMap linesH) = false ∧ (printH l).1 = headerH l := by
  unfold printH at h ⊢
  by_cases h1 : l.all rightB = false
  · rw [if_pos h1] at h
    cases h
  · rw [if_neg h1] at h ⊢
    by_cases h2 : 64 < l.length
    · rw [if_pos h2] at h
      cases h
    · rw [if_neg h2] at h ⊢
      by_cases h3 : longH (l.flatMap linesH) = true
      · rw [if_pos h3] at h
        cases h
      · rw [if_neg h3]
        refine ⟨fun f hf => (right_iff f).1 ?_, by omega, by simpa using h3, rfl⟩
        have := (Bool.not_eq_false _).mp h1
        exact List.all_eq_true.1 this f hf
theorem end_len : ∀ ls : List TextH, 2 * ls.length ≤ (endH ls).length
  | [] => Nat.le_refl _
  | l :: ls => by
    have := end_len ls
    unfold endH at this ⊢
    rw [List.flatMap_cons, List.length_append, List.length_append, List.length_cons]
    show _ ≤ l.length + 2 + _
    omega
/-- What was printed is parsed, whatever stands behind. -/
theorem parse_back {l : List FieldH} (h : (printH l).2 = 0) (more : TextH) : parseH ((printH l).1 ++ more) = ((l, more), 0) := by
  obtain ⟨hr, h64, hl, hp⟩ := print_ok h
  rw [hp]
  have hlen : (l.flatMap linesH).length < (headerH l ++ more).length + 1 := by
    have := end_len (l.flatMap linesH)
    unfold headerH
    rw [List.length_append, List.length_append]
    omega
  obtain ⟨ls, ht, rfl, _⟩ := fields_back l hr more _ hlen
  have hg : goesH ((l.flatMap linesH).headD []) = false := by
    match l, hr with
    | [], _ => rfl
    | f :: l, hr =>
      obtain ⟨y, ys, e, _⟩ := lines_shape f
      rw [List.flatMap_cons, e]
      exact name_goes (hr f (List.mem_cons_self ..)) _
  unfold parseH
  rw [ht]
  show (if longH _ = true then _ else _) = _
  rw [if_neg (by rw [hl]; decide), if_neg (by rw [hg]; decide), join_fields l hr, fields_all l hr]
  show (if 64 < l.length then _ else _) = _
  rw [if_neg (by omega)]
theorem fields_right : ∀ (ws : List TextH) {l : List FieldH}, fieldsH ws = some l → ∀ f ∈ l, RightH f
  | [], l, h, f, hf => by
    obtain rfl := Option.some.inj h
    cases hf
  | w :: ws, l, h, f, hf => by
    rw [fieldsH] at h
    cases hw : fieldH w with
    | none =>
      rw [hw] at h
      cases h
    | some g =>
      rw [hw] at h
      by_cases hg : rightB g = true
      · have h2 : (fieldsH ws).map (g :: ·) = some l := by
          rw [← h]
          show _ = if rightB g = true then _ else _
          rw [if_pos hg]
        cases hws : fieldsH ws with
        | none =>
          rw [hws] at h2
          cases h2
        | some l2 =>
          rw [hws] at h2
          obtain rfl := Option.some.inj h2
          rcases List.mem_cons.1 hf with rfl | hf
          · exact (right_iff f).1 hg
          · exact fields_right ws hws f hf
      · have h2 : (none : Option (List FieldH)) = some l := by
          rw [← h]
          show none = if rightB g = true then _ else _
          rw [if_neg hg]
        cases h2
/-- Two headers' fields together. -/
theorem header_more (a b : List FieldH) : headerH (a ++ b) = (headerH a).take ((headerH a).length - 2) ++ headerH b := by
  unfold headerH
  rw [List.flatMap_append]
  have e : endH (a.flatMap linesH ++ b.flatMap linesH) = endH (a.flatMap linesH) ++ endH (b.flatMap linesH) := by
    unfold endH
    rw [List.flatMap_append]
  rw [e, List.length_append]
  show _ = List.take (_ + 2 - 2) _ ++ _
  rw [Nat.add_sub_cancel, List.take_left, List.append_assoc]
/-- Letters' case plays no part. -/
def lowH (c : UInt8) : UInt8 := if 65 ≤ c.toNat ∧ c.toNat ≤ 90 then c + 32 else c
def sameH (a b : TextH) : Bool := decide (a.map lowH = b.map lowH)
def getH (l : List FieldH) (name : TextH) : Option TextH := (l.find? fun f => sameH f.1 name).map (·.2)
end Go.Proofs.YtneihcdeflfahaaDoor
