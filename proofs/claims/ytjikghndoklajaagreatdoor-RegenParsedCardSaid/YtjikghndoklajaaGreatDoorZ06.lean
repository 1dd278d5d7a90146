/-
  Texts of this proof, put together: C12P, H10Q, M13P.
-/
import Derived.Test.YtjikghndoklajaaGreatDoorZ04
import Derived.Lib.Case
import Derived.Test.YtjikghndoklajaaGreatDoorZ05
import Derived.Test.YtjikghndoklajaaGreatDoorZ02
namespace Go.Proofs.YtjikghndoklajaaGreatDoor

abbrev ParC := TextA × TextA
abbrev TypeC := TextA × TextA × List ParC
def marksC : TextA := [33, 35, 36, 38, 45, 94, 95, 46, 43]
def tokC (c : UInt8) : Bool := lowA c || marksC.contains c
def gapC (c : UInt8) : Bool := c == 32 || c == 9
def inNameC (c : UInt8) : Bool := decide (65 ≤ c.toNat ∧ c.toNat ≤ 90) || tokC c
def tokT (s : TextA) : Bool := decide (1 ≤ s.length) && (decide (s.length ≤ 64) && s.all tokC)
def valT (s : TextA) : Bool := decide (s.length ≤ 70) && s.all nameCA
def hasC (l : List ParC) (n : TextA) : Bool := l.any fun p => p.1 == n
def parsC : List ParC → Bool
  | [] => true
  | p :: l => tokT p.1 && (valT p.2 && (!(hasC l p.1) && parsC l))
def rightC (t : TypeC) : Bool := tokT t.1 && (tokT t.2.1 && (decide (t.2.2.length ≤ 8) && parsC t.2.2))
def findC (l : List ParC) (n : TextA) : Option ParC := l.find? fun p => p.1 == n

def valTextC (v : TextA) : TextA := if tokT v = true then v else quoteA v
def parTextC (p : ParC) : TextA := [59, 32] ++ (p.1 ++ (61 :: valTextC p.2))
def textC (t : TypeC) : TextA := t.1 ++ (47 :: (t.2.1 ++ t.2.2.flatMap parTextC))
def printC (t : TypeC) : TextA × Int := if rightC t = true then (textC t, 0) else ([], 2)

def wordC (s : TextA) : TextA := (s.takeWhile inNameC).map Lib.lowerB
def valueC (s : TextA) : Option (TextA × TextA) := match cutA 34 s with
  | some r => hearA false [] r
  | none => if tokT (s.takeWhile tokC) = true then some (s.takeWhile tokC, s.dropWhile tokC) else none
def paramC (s : TextA) : Option (ParC × TextA) := match cutA 61 (s.dropWhile inNameC) with
  | none => none
  | some r => match valueC r with
    | none => none
    | some (v, u) => some ((wordC s, v), u)
def moreC : Nat → List ParC → TextA → Option (List ParC)
  | 0, _, _ => none
  | n + 1, l, s => match cutA 59 s with
    | none => if s = [] then some l else none
    | some r => match paramC (r.dropWhile gapC) with
      | none => none
      | some (p, u) => if l.length = 8 then none else moreC n (l ++ [p]) (u.dropWhile gapC)
def readC (s : TextA) : Option TypeC := match cutA 47 ((s.dropWhile gapC).dropWhile inNameC) with
  | none => none
  | some r => match moreC (s.length + 1) [] ((r.dropWhile inNameC).dropWhile gapC) with
    | none => none
    | some l => some (wordC (s.dropWhile gapC), wordC r, l)
def parseC (s : TextA) : Option TypeC := match readC s with
  | none => none
  | some t => if rightC t = true then some t else none

theorem parse_right {s : TextA} {t : TypeC} (h : parseC s = some t) : rightC t = true := by
  unfold parseC at h
  split at h
  · cases h
  · split at h
    · rename_i h1
      cases h
      exact h1
    · cases h

theorem tok_name {c : UInt8} (h : tokC c = true) : inNameC c = true := by
  unfold inNameC
  rw [h, Bool.or_true]
theorem tok_low {c : UInt8} (h : tokC c = true) : Lib.lowerB c = c := by
  unfold Lib.lowerB
  cases hu : Lib.isUpperB c with
  | false => rfl
  | true =>
    exfalso
    unfold Lib.isUpperB at hu
    rw [Bool.and_eq_true, decide_eq_true_eq, decide_eq_true_eq, UInt8.le_iff_toNat_le, UInt8.le_iff_toNat_le] at hu
    have h1 : 65 ≤ c.toNat := hu.1
    have h2 : c.toNat ≤ 90 := hu.2
    unfold tokC lowA at h
    simp only [Bool.or_eq_true, decide_eq_true_eq] at h
    rcases h with (h | h) | h
    · omega
    · omega
    · have h3 : c ∈ marksC := by simpa using h
      simp only [marksC, List.mem_cons, List.not_mem_nil, or_false] at h3
      rcases h3 with rfl | rfl | rfl | rfl | rfl | rfl | rfl | rfl | rfl <;> revert h1 h2 <;> decide
theorem name_gap {c : UInt8} (h : inNameC c = true) : gapC c = false := by
  unfold gapC
  rw [Bool.or_eq_false_iff, beq_eq_false_iff_ne, beq_eq_false_iff_ne]
  constructor
  · rintro rfl
    exact absurd h (by decide)
  · rintro rfl
    exact absurd h (by decide)
def EndsC (r : TextA) : Prop := ∀ c t, r = c :: t → gapC c = true ∨ c = 59
theorem ends_out {r : TextA} (h : EndsC r) : ∀ c t, r = c :: t → inNameC c = false := by
  intro c t e
  rcases h c t e with h | rfl
  · cases hn : inNameC c with
    | false => rfl
    | true =>
      rw [name_gap hn] at h
      cases h
  · decide
theorem ends_outT {r : TextA} (h : EndsC r) : ∀ c t, r = c :: t → tokC c = false := by
  intro c t e
  cases hn : tokC c with
  | false => rfl
  | true =>
    have := ends_out h c t e
    rw [tok_name hn] at this
    cases this
theorem ends_app {g r : TextA} (hg : g.all gapC = true) (h : EndsC r) : EndsC (g ++ r) := by
  cases g with
  | nil => exact h
  | cons c g =>
    intro d t e
    rw [List.all_cons, Bool.and_eq_true] at hg
    rw [List.cons_append] at e
    cases e
    exact .inl hg.1
theorem ends_gap {g : TextA} (hg : g.all gapC = true) : EndsC g := by
  have := ends_app hg (r := []) (fun c t e => by cases e)
  rwa [List.append_nil] at this
theorem take_out {p : UInt8 → Bool} {l r : TextA} (hl : l.all p = true) (hr : ∀ c t, r = c :: t → p c = false) : (l ++ r).takeWhile p = l ∧ (l ++ r).dropWhile p = r := by
  cases r with
  | nil =>
    rw [List.append_nil]
    exact take_end l hl
  | cons c t => exact take_to c t (hr c t rfl) l hl
theorem drop_gap (g r : TextA) (hg : g.all gapC = true) : (g ++ r).dropWhile gapC = r.dropWhile gapC := by
  induction g with
  | nil => rfl
  | cons c g ih =>
    rw [List.all_cons, Bool.and_eq_true] at hg
    rw [List.cons_append, List.dropWhile_cons, hg.1, if_pos rfl, ih hg.2]
theorem gap_none {g : TextA} (hg : g.all gapC = true) : g.dropWhile gapC = [] := (take_end g hg).2

structure FormC where
  a : TextA
  b : TextA
  n : TextA
  v : TextA
  z : TextA
def FormC.text (f : FormC) : TextA := f.a ++ (59 :: (f.b ++ (f.n ++ (61 :: (f.v ++ f.z)))))
structure GoodC (f : FormC) (p : ParC) : Prop where
  a : f.a.all gapC = true
  b : f.b.all gapC = true
  z : f.z.all gapC = true
  n : f.n.all inNameC = true
  e : f.n.map Lib.lowerB = p.1
  v : ∀ r, EndsC r → valueC (f.v ++ r) = some (p.2, r)
theorem ends_form {f : FormC} {p : ParC} (h : GoodC f p) (r : TextA) : EndsC (f.text ++ r) := by
  unfold FormC.text
  rw [List.append_assoc]
  exact ends_app h.a (fun c t e => by
    rw [List.cons_append] at e
    cases e
    exact .inr rfl)
theorem ends_forms {f : ParC → FormC} : ∀ {l : List ParC} (_ : ∀ p ∈ l, GoodC (f p) p) {r : TextA} (_ : r.all gapC = true), EndsC (l.flatMap (fun p => (f p).text) ++ r)
  | [], _, r, hr => ends_gap hr
  | p :: l, h, r, hr => by
    rw [List.flatMap_cons, List.append_assoc]
    exact ends_form (h p (List.mem_cons_self ..)) _
theorem more_forms {f : ParC → FormC} : ∀ (l pre : List ParC) (n : Nat) (r : TextA), (∀ p ∈ l, GoodC (f p) p) → r.all gapC = true → pre.length + l.length ≤ 8 → l.length < n →
    moreC n pre ((l.flatMap (fun p => (f p).text) ++ r).dropWhile gapC) = some (pre ++ l)
  | [], pre, n, r, _, hr, _, hn => by
    obtain ⟨n, rfl⟩ : ∃ m, n = m + 1 := ⟨n - 1, by simp at hn; omega⟩
    rw [List.flatMap_nil, List.nil_append, gap_none hr, List.append_nil]
    rfl
  | p :: l, pre, n, r, h, hr, h8, hn => by
    obtain ⟨n, rfl⟩ : ∃ m, n = m + 1 := ⟨n - 1, by simp at hn; omega⟩
    have hp := h p (List.mem_cons_self ..)
    have hl := fun q hq => h q (List.mem_cons_of_mem _ hq)
    simp at h8 hn
    obtain ⟨R, hR⟩ : ∃ R, l.flatMap (fun p => (f p).text) ++ r = R := ⟨_, rfl⟩
    have hER : EndsC R := by rw [← hR]; exact ends_forms hl hr
    have e1 : (List.flatMap (fun p => (f p).text) (p :: l) ++ r).dropWhile gapC = 59 :: ((f p).b ++ ((f p).n ++ (61 :: ((f p).v ++ ((f p).z ++ R))))) := by
      rw [List.flatMap_cons, List.append_assoc, hR]
      unfold FormC.text
      simp only [List.append_assoc, List.cons_append]
      rw [drop_gap _ _ hp.a]
      rfl
    have e2 : ((f p).b ++ ((f p).n ++ (61 :: ((f p).v ++ ((f p).z ++ R))))).dropWhile gapC = (f p).n ++ (61 :: ((f p).v ++ ((f p).z ++ R))) := by
      rw [drop_gap _ _ hp.b]
      have hn2 := hp.n
      generalize (f p).n = m at hn2 ⊢
      cases m with
      | nil => rfl
      | cons c m =>
        rw [List.all_cons, Bool.and_eq_true] at hn2
        rw [List.cons_append, List.dropWhile_cons, name_gap hn2.1]
        rfl
    obtain ⟨t1, t2⟩ := take_to (p := inNameC) 61 ((f p).v ++ ((f p).z ++ R)) (by decide) (f p).n hp.n
    have e3 : paramC ((f p).n ++ (61 :: ((f p).v ++ ((f p).z ++ R)))) = some (p, (f p).z ++ R) := by
      unfold paramC wordC
      rw [t1, t2, cutA_cons, if_pos rfl]
      simp only
      rw [hp.v _ (ends_app hp.z hER), hp.e]
    rw [e1]
    unfold moreC
    rw [cutA_cons, if_pos rfl]
    simp only
    rw [e2, e3]
    simp only
    rw [if_neg (by omega), drop_gap _ _ hp.z, ← hR]
    have := more_forms l (pre ++ [p]) n r hl hr (by simp; omega) (by omega)
    rw [this, List.append_assoc]
    rfl
theorem forms_len {f : ParC → FormC} : ∀ l : List ParC, l.length ≤ (l.flatMap (fun p => (f p).text)).length
  | [] => Nat.le_refl _
  | p :: l => by
    have := forms_len (f := f) l
    rw [List.flatMap_cons, List.length_append, List.length_cons]
    have h2 : 1 ≤ ((f p).text).length := by
      unfold FormC.text
      rw [List.length_append, List.length_cons]
      omega
    omega
theorem parse_forms {f : ParC → FormC} (t : TypeC) (g m s r : TextA) (ht : rightC t = true) (hg : g.all gapC = true) (hm : m.all inNameC = true) (em : m.map Lib.lowerB = t.1) (hs : s.all inNameC = true) (es : s.map Lib.lowerB = t.2.1)
    (hf : ∀ p ∈ t.2.2, GoodC (f p) p) (hr : r.all gapC = true) : parseC (g ++ (m ++ (47 :: (s ++ (t.2.2.flatMap (fun p => (f p).text) ++ r))))) = some t := by
  have hrt := ht
  unfold rightC at ht
  simp only [Bool.and_eq_true, decide_eq_true_eq] at ht
  obtain ⟨h1, h2, h3, h4⟩ := ht
  obtain ⟨R, hR⟩ : ∃ R, t.2.2.flatMap (fun p => (f p).text) ++ r = R := ⟨_, rfl⟩
  have hER : EndsC R := by rw [← hR]; exact ends_forms hf hr
  obtain ⟨a1, a2⟩ := take_to (p := inNameC) 47 (s ++ R) (by decide) m hm
  obtain ⟨b1, b2⟩ := take_out (p := inNameC) (l := s) (r := R) hs (ends_out hER)
  have e1 : (g ++ (m ++ (47 :: (s ++ R)))).dropWhile gapC = m ++ (47 :: (s ++ R)) := by
    rw [drop_gap _ _ hg]
    generalize m = m at hm
    cases m with
    | nil => rfl
    | cons c m =>
      rw [List.all_cons, Bool.and_eq_true] at hm
      rw [List.cons_append, List.dropWhile_cons, name_gap hm.1]
      rfl
  have hlen : t.2.2.length < (g ++ (m ++ (47 :: (s ++ R)))).length + 1 := by
    have h5 := forms_len (f := f) t.2.2
    have h6 : R.length = (t.2.2.flatMap (fun p => (f p).text)).length + r.length := by rw [← hR, List.length_append]
    simp only [List.length_append, List.length_cons]
    omega
  have h7 := more_forms (f := f) t.2.2 [] ((g ++ (m ++ (47 :: (s ++ R)))).length + 1) r hf hr (by simpa using h3) hlen
  rw [hR, List.nil_append] at h7
  unfold parseC readC
  rw [hR, e1, a2, cutA_cons, if_pos rfl]
  simp only
  rw [b2, h7]
  simp only
  unfold wordC
  rw [a1, b1, em, es]
  rw [if_pos hrt]
theorem all_low {s : TextA} (h : s.all tokC = true) : s.all inNameC = true ∧ s.map Lib.lowerB = s := by
  induction s with
  | nil => exact ⟨rfl, rfl⟩
  | cons c s ih =>
    rw [List.all_cons, Bool.and_eq_true] at h
    obtain ⟨a, b⟩ := ih h.2
    rw [List.all_cons, a, tok_name h.1, List.map_cons, b, tok_low h.1]
    exact ⟨rfl, rfl⟩
theorem tok_all {s : TextA} (h : tokT s = true) : s.all tokC = true ∧ 1 ≤ s.length ∧ s.length ≤ 64 := by
  unfold tokT at h
  simp only [Bool.and_eq_true, decide_eq_true_eq] at h
  exact ⟨h.2.2, h.1, h.2.1⟩
theorem value_text (v r : TextA) (hr : EndsC r) : valueC (valTextC v ++ r) = some (v, r) := by
  unfold valTextC
  cases h : tokT v with
  | true =>
    rw [if_pos rfl]
    obtain ⟨h1, h2, h3⟩ := tok_all h
    obtain ⟨t1, t2⟩ := take_out h1 (ends_outT hr)
    have hc : cutA 34 (v ++ r) = none := by
      cases v with
      | nil => simp at h2
      | cons c v =>
        rw [List.all_cons, Bool.and_eq_true] at h1
        rw [List.cons_append, cutA_cons, if_neg]
        rintro rfl
        exact absurd h1.1 (by decide)
    unfold valueC
    rw [hc]
    simp only
    rw [t1, t2, h, if_pos rfl]
  | false =>
    rw [if_neg (by simp)]
    unfold quoteA valueC
    rw [List.cons_append, cutA_cons, if_pos rfl, List.append_assoc]
    exact hear_tell r v []
theorem pars_tok : ∀ {l : List ParC}, parsC l = true → ∀ p ∈ l, tokT p.1 = true ∧ valT p.2 = true
  | p :: l, h, q, hq => by
    unfold parsC at h
    simp only [Bool.and_eq_true] at h
    rcases List.mem_cons.1 hq with rfl | hq
    · exact ⟨h.1, h.2.1⟩
    · exact pars_tok h.2.2.2 q hq
theorem print_back (t : TypeC) (g r : TextA) (ht : rightC t = true) (hg : g.all gapC = true) (hr : r.all gapC = true) : parseC (g ++ (textC t ++ r)) = some t := by
  have h0 := ht
  unfold rightC at h0
  simp only [Bool.and_eq_true, decide_eq_true_eq] at h0
  obtain ⟨h1, h2, h3, h4⟩ := h0
  have hf : ∀ p ∈ t.2.2, GoodC (⟨[], [32], p.1, valTextC p.2, []⟩ : FormC) p := fun p hp => by
    have hk := all_low (tok_all (pars_tok h4 p hp).1).1
    exact ⟨rfl, rfl, rfl, hk.1, hk.2, fun r hr => value_text p.2 r hr⟩
  have a1 := all_low (tok_all h1).1
  have a2 := all_low (tok_all h2).1
  have := parse_forms (f := fun p => ⟨[], [32], p.1, valTextC p.2, []⟩) t g t.1 t.2.1 r ht hg a1.1 a1.2 a2.1 a2.2 hf hr
  have e : ∀ l : List ParC, l.flatMap (fun p => (⟨[], [32], p.1, valTextC p.2, []⟩ : FormC).text) = l.flatMap parTextC := fun l => by
    congr 1
    funext p
    unfold FormC.text parTextC
    simp
  rw [e] at this
  rw [← this]
  unfold textC
  simp
theorem has_iff (l : List ParC) (n : TextA) : hasC l n = true ↔ ∃ p ∈ l, p.1 = n := by
  unfold hasC
  simp
theorem tokt_len {s : TextA} (h : tokT s = true) : s.length ≤ 64 := (tok_all h).2.2
theorem valt_len {s : TextA} (h : valT s = true) : s.length ≤ 70 := by
  unfold valT at h
  simp only [Bool.and_eq_true, decide_eq_true_eq] at h
  exact h.1
theorem valtext_len (v : TextA) : (valTextC v).length ≤ 2 * v.length + 2 := by
  unfold valTextC quoteA
  have := tells_len v
  split
  · omega
  · simp only [List.length_cons, List.length_append, List.length_nil]
    omega
theorem partext_len (p : ParC) : (parTextC p).length ≤ p.1.length + 2 * p.2.length + 5 := by
  unfold parTextC
  have := valtext_len p.2
  simp only [List.length_cons, List.length_append, List.length_nil]
  omega
theorem pars_len : ∀ l : List ParC, (∀ p ∈ l, p.1.length ≤ 64 ∧ p.2.length ≤ 70) → (l.flatMap parTextC).length ≤ 300 * l.length
  | [], _ => by simp
  | p :: l, h => by
    have h1 := pars_len l (fun q hq => h q (List.mem_cons_of_mem _ hq))
    have h2 := partext_len p
    have h3 := h p (List.mem_cons_self ..)
    rw [List.flatMap_cons, List.length_append, List.length_cons]
    omega
theorem right_parts {t : TypeC} (h : rightC t = true) : t.1.length ≤ 64 ∧ t.2.1.length ≤ 64 ∧ t.2.2.length ≤ 8 ∧ ∀ p ∈ t.2.2, p.1.length ≤ 64 ∧ p.2.length ≤ 70 := by
  unfold rightC at h
  simp only [Bool.and_eq_true, decide_eq_true_eq] at h
  exact ⟨tokt_len h.1, tokt_len h.2.1, h.2.2.1, fun p hp => ⟨tokt_len (pars_tok h.2.2.2 p hp).1, valt_len (pars_tok h.2.2.2 p hp).2⟩⟩
theorem text_lenC {t : TypeC} (h : rightC t = true) : (textC t).length ≤ 3000 := by
  obtain ⟨h1, h2, h3, h4⟩ := right_parts h
  have := pars_len t.2.2 h4
  unfold textC
  simp only [List.length_cons, List.length_append]
  omega
end Go.Proofs.YtjikghndoklajaaGreatDoor
namespace Go.Proofs.YtjikghndoklajaaGreatDoor

def rightB (f : FieldH) : Bool :=
  decide (1 ≤ f.1.length ∧ f.1.length ≤ 64) && (f.1.all (fun c => decide (33 ≤ c.toNat ∧ c.toNat ≤ 126 ∧ c ≠ 58)) && (f.2.all (fun c => decide (c ≠ 0 ∧ c ≠ 10 ∧ c ≠ 13)) && (!(goesH f.2) && !(goesH f.2.reverse))))
theorem right_iff (f : FieldH) : rightB f = true ↔ RightH f := by
  unfold rightB
  simp only [Bool.and_eq_true, decide_eq_true_eq, List.all_eq_true, Bool.not_eq_true']
  constructor
  · rintro ⟨⟨h1, h2⟩, h3, h4, h5, h6⟩
    refine ⟨fun e => by rw [e] at h1; simp at h1, h2, h3, h4, fun c r e => ?_, fun c r e => ?_⟩
    · rw [e] at h5
      exact h5
    · rw [e, List.reverse_append] at h6
      exact h6
  · intro h
    refine ⟨⟨List.length_pos_iff.2 h.n1, h.n64⟩, h.name, h.body, ?_, ?_⟩
    · cases hb : f.2 with
      | nil => rfl
      | cons c r => exact h.first c r hb
    · cases hb : f.2.reverse with
      | nil => rfl
      | cons c r => exact h.last c r.reverse (by rw [← List.reverse_reverse f.2, hb, List.reverse_cons])
def longH (ls : List TextH) : Bool := ls.any fun l => decide (998 < l.length)
def printH (l : List FieldH) : TextH × Int :=
  if l.all rightB = false then ([], 2) else if 64 < l.length then ([], 3) else if longH (l.flatMap linesH) = true then ([], 3) else (headerH l, 0)
def fieldsH : List TextH → Option (List FieldH)
  | [] => some []
  | w :: ws => match fieldH w with
    | none => none
    | some f => if rightB f = true then (fieldsH ws).map (f :: ·) else none
def parseH (s : TextH) : (List FieldH × TextH) × Int :=
  match topH (s.length + 1) s with
  | none => (([], []), 2)
  | some (ls, rest) =>
    if longH ls = true then (([], []), 3) else if goesH (ls.headD []) = true then (([], []), 2)
    else match fieldsH (joinH ls) with
      | none => (([], []), 2)
      | some l => if 64 < l.length then (([], []), 3) else ((l, rest), 0)
theorem fields_all : ∀ l : List FieldH, (∀ f ∈ l, RightH f) → fieldsH (l.map wholeH) = some l
  | [], _ => rfl
  | f :: l, h => by
    have hf := h f (List.mem_cons_self ..)
    show fieldsH (wholeH f :: l.map wholeH) = _
    rw [fieldsH, field_whole hf]
    show (if rightB f = true then _ else _) = _
    rw [if_pos ((right_iff f).2 hf), fields_all l (fun g hg => h g (List.mem_cons_of_mem _ hg))]
    rfl
theorem print_ok {l : List FieldH} (h : (printH l).2 = 0) : (∀ f ∈ l, RightH f) ∧ l.length ≤ 64 ∧ longH (l.flatMap linesH) = false ∧ (printH l).1 = headerH l := by
  unfold printH at h ⊢
  by_cases h1 : l.all rightB = false
  · rw [if_pos h1] at h
    cases h
  · rw [if_neg h1] at h ⊢
    by_cases h2 : 64 < l.length
    · rw [if_pos h2] at h
      cases h
    · rw [if_neg h2] at h ⊢
      by_cases h3 : longH (l.flatMap linesH) = true
      · rw [if_pos h3] at h
        cases h
      · rw [if_neg h3]
        refine ⟨fun f hf => (right_iff f).1 ?_, by omega, by simpa using h3, rfl⟩
        have := (Bool.not_eq_false _).mp h1
        exact List.all_eq_true.1 this f hf
theorem end_len : ∀ ls : List TextH, 2 * ls.length ≤ (endH ls).length
  | [] => Nat.le_refl _
  | l :: ls => by
    have := end_len ls
    unfold endH at this ⊢
    rw [List.flatMap_cons, List.length_append, List.length_append, List.length_cons]
    show _ ≤ l.length + 2 + _
    omega
theorem parse_back {l : List FieldH} (h : (printH l).2 = 0) (more : TextH) : parseH ((printH l).1 ++ more) = ((l, more), 0) := by
  obtain ⟨hr, h64, hl, hp⟩ := print_ok h
  rw [hp]
  have hlen : (l.flatMap linesH).length < (headerH l ++ more).length + 1 := by
    have := end_len (l.flatMap linesH)
    unfold headerH
    rw [List.length_append, List.length_append]
    omega
  obtain ⟨ls, ht, rfl, _⟩ := fields_back l hr more _ hlen
  have hg : goesH ((l.flatMap linesH).headD []) = false := by
    match l, hr with
    | [], _ => rfl
    | f :: l, hr =>
      obtain ⟨y, ys, e, _⟩ := lines_shape f
      rw [List.flatMap_cons, e]
      exact name_goes (hr f (List.mem_cons_self ..)) _
  unfold parseH
  rw [ht]
  show (if longH _ = true then _ else _) = _
  rw [if_neg (by rw [hl]; decide), if_neg (by rw [hg]; decide), join_fields l hr, fields_all l hr]
  show (if 64 < l.length then _ else _) = _
  rw [if_neg (by omega)]
theorem fields_right : ∀ (ws : List TextH) {l : List FieldH}, fieldsH ws = some l → ∀ f ∈ l, RightH f
  | [], l, h, f, hf => by
    obtain rfl := Option.some.inj h
    cases hf
  | w :: ws, l, h, f, hf => by
    rw [fieldsH] at h
    cases hw : fieldH w with
    | none =>
      rw [hw] at h
      cases h
    | some g =>
      rw [hw] at h
      by_cases hg : rightB g = true
      · have h2 : (fieldsH ws).map (g :: ·) = some l := by
          rw [← h]
          show _ = if rightB g = true then _ else _
          rw [if_pos hg]
        cases hws : fieldsH ws with
        | none =>
          rw [hws] at h2
          cases h2
        | some l2 =>
          rw [hws] at h2
          obtain rfl := Option.some.inj h2
          rcases List.mem_cons.1 hf with rfl | hf
          · exact (right_iff f).1 hg
          · exact fields_right ws hws f hf
      · have h2 : (none : Option (List FieldH)) = some l := by
          rw [← h]
          show none = if rightB g = true then _ else _
          rw [if_neg hg]
        cases h2
def lowH (c : UInt8) : UInt8 := if 65 ≤ c.toNat ∧ c.toNat ≤ 90 then c + 32 else c
def sameH (a b : TextH) : Bool := decide (a.map lowH = b.map lowH)
def getH (l : List FieldH) (name : TextH) : Option TextH := (l.find? fun f => sameH f.1 name).map (·.2)
end Go.Proofs.YtjikghndoklajaaGreatDoor
namespace Go.Proofs.YtjikghndoklajaaGreatDoor

inductive TreeM where
  | mk (fields : List FieldH) (typ : TypeC) (body : TextH) (parts : List TreeM)
def TreeM.fields : TreeM → List FieldH
  | .mk f _ _ _ => f
def TreeM.typ : TreeM → TypeC
  | .mk _ t _ _ => t
def TreeM.body : TreeM → TextH
  | .mk _ _ b _ => b
def TreeM.parts : TreeM → List TreeM
  | .mk _ _ _ l => l
def nilM : TreeM := .mk [] ([], [], []) [] []
mutual
def countM : TreeM → Nat
  | .mk _ _ _ l => 1 + countsM l
def countsM : List TreeM → Nat
  | [] => 0
  | p :: l => countM p + countsM l
end
def nextM (mk : TextH) : TextH → Option (TextH × TextH)
  | [] => none
  | c :: r => if (13 :: 10 :: mk).isPrefixOf (c :: r) = true then some ([], (c :: r).drop (mk.length + 2)) else (nextM mk r).map fun x => (c :: x.1, x.2)
def divN : Nat → TextH → TextH → Option (List TextH)
  | 0, _, _ => none
  | f + 1, mk, s => match nextM mk s with
    | none => if s = [45, 45, 13, 10] then some [] else none
    | some (13 :: 10 :: u, r) => (divN f mk r).map (u :: ·)
    | some _ => none
def divM (mk raw : TextH) : Option (List TextH) :=
  if mk.isPrefixOf raw = true then (match nextM mk (raw.drop mk.length) with
    | none => none
    | some _ => divN (raw.length + 1) mk (raw.drop mk.length)) else none
def ctM : TextH := [67, 111, 110, 116, 101, 110, 116, 45, 84, 121, 112, 101]
def cteM : TextH := [67, 111, 110, 116, 101, 110, 116, 45, 84, 114, 97, 110, 115, 102, 101, 114, 45, 69, 110, 99, 111, 100, 105, 110, 103]
def bit7M : TextH := [55, 98, 105, 116]
def bit8M : TextH := [56, 98, 105, 116]
def base64M : TextH := [98, 97, 115, 101, 54, 52]
def quotedM : TextH := [113, 117, 111, 116, 101, 100, 45, 112, 114, 105, 110, 116, 97, 98, 108, 101]
def textM : TextH := [116, 101, 120, 116]
def plainM : TextH := [112, 108, 97, 105, 110]
def multiM : TextH := [109, 117, 108, 116, 105, 112, 97, 114, 116]
def boundM : TextH := [98, 111, 117, 110, 100, 97, 114, 121]
def codM (l : List FieldH) : Nat := match getH l cteM with
  | none => 0
  | some c => if sameH c bit7M = true ∨ sameH c bit8M = true then 0 else if sameH c base64M = true then 1 else if sameH c quotedM = true then 2 else 3
def typM (l : List FieldH) : Option TypeC := match getH l ctM with
  | none => some (textM, plainM, [])
  | some t => parseC t
def leafM (c : Nat) (raw : TextH) : Option TextH := if c = 0 then some raw else if c = 1 then unfoldB raw else if c = 2 then decQ raw else none
def borderM (t : TypeC) : TextH := match findC t.2.2 boundM with
  | none => []
  | some p => p.2
def allM (f : TextH → Nat → TreeM × Nat × Int) : List TextH → Nat → List TreeM × Nat × Int
  | [], n => ([], n, 0)
  | t :: ts, n => if (f t n).2.2 = 0 then ((f t n).1 :: (allM f ts (f t n).2.1).1, (allM f ts (f t n).2.1).2) else ([], (f t n).2)
def stepM (sub : Option (TextH → Nat → TreeM × Nat × Int)) (s : TextH) (n : Nat) : TreeM × Nat × Int :=
  if 16 ≤ n then (nilM, n, 3) else
  if (parseH s).2 ≠ 0 then (nilM, n + 1, (parseH s).2) else
  match typM (parseH s).1.1 with
  | none => (nilM, n + 1, 2)
  | some t =>
    if t.1 ≠ multiM then (match leafM (codM (parseH s).1.1) (parseH s).1.2 with
      | none => (nilM, n + 1, 2)
      | some b => (.mk (parseH s).1.1 t b [], n + 1, 0))
    else if borderM t = [] ∨ codM (parseH s).1.1 ≠ 0 then (nilM, n + 1, 2)
    else match divM (45 :: 45 :: borderM t) (parseH s).1.2 with
      | none => (nilM, n + 1, 2)
      | some l => match sub with
        | none => (nilM, n + 1, 10)
        | some f => if (allM f l (n + 1)).2.2 = 0 then (.mk (parseH s).1.1 t [] (allM f l (n + 1)).1, (allM f l (n + 1)).2.1, 0) else (nilM, (allM f l (n + 1)).2)
def partM : Nat → TextH → Nat → TreeM × Nat × Int
  | 0 => stepM none
  | d + 1 => stepM (some (partM d))
def parseM (s : TextH) : TreeM × Int := if 16384 < s.length then (nilM, 3) else ((partM 4 s 0).1, (partM 4 s 0).2.2)

theorem next_some {mk : TextH} : ∀ {s t r : TextH}, nextM mk s = some (t, r) → s = t ++ 13 :: 10 :: (mk ++ r)
  | [], t, r, h => by cases h
  | c :: s, t, r, h => by
    unfold nextM at h
    split at h
    · rename_i hp
      obtain ⟨rfl, rfl⟩ := Prod.mk.inj (Option.some.inj h)
      obtain ⟨u, hu⟩ := List.isPrefixOf_iff_prefix.1 hp
      rw [← hu]
      simp
    · cases hn : nextM mk s with
      | none =>
        rw [hn] at h
        cases h
      | some x =>
        rw [hn] at h
        obtain ⟨rfl, rfl⟩ := Prod.mk.inj (Option.some.inj h)
        rw [next_some (t := x.1) (r := x.2) hn, List.cons_append]
theorem next_here {mk : TextH} (h13 : (13 : UInt8) ∉ mk) : ∀ (t r : TextH), (∀ u v, t ≠ u ++ mk ++ v) → nextM mk (t ++ 13 :: 10 :: (mk ++ r)) = some (t, r)
  | [], r, _ => by
    show nextM mk (13 :: 10 :: (mk ++ r)) = _
    unfold nextM
    rw [if_pos (show (13 :: 10 :: mk).isPrefixOf (13 :: 10 :: (mk ++ r)) = true from List.isPrefixOf_iff_prefix.2 ⟨r, rfl⟩)]
    simp
  | c :: t, r, h => by
    have ih := next_here h13 t r (fun u v e => h (c :: u) v (by rw [e]; rfl))
    show nextM mk (c :: (t ++ 13 :: 10 :: (mk ++ r))) = _
    unfold nextM
    rw [if_neg, ih]
    · rfl
    · intro hp
      obtain ⟨v, hv⟩ := List.isPrefixOf_iff_prefix.1 hp
      match t, h, hv with
      | [], h, hv =>
        have hv : 13 :: 10 :: (mk ++ v) = [c] ++ 13 :: 10 :: (mk ++ r) := hv
        simp at hv
      | [d], h, hv =>
        have hv : 13 :: 10 :: (mk ++ v) = c :: d :: 13 :: 10 :: (mk ++ r) := hv
        simp only [List.cons.injEq] at hv
        match mk, h13, hv with
        | [], _, _ => exact absurd rfl (h [c, d] [])
        | m :: ms, h13, hv =>
          have := hv.2.2
          simp only [List.cons_append, List.cons.injEq] at this
          exact h13 (by rw [this.1]; exact List.mem_cons_self ..)
      | d :: e :: t', h, hv =>
        have hv : 13 :: 10 :: (mk ++ v) = c :: d :: ((e :: t') ++ 13 :: 10 :: (mk ++ r)) := hv
        simp only [List.cons.injEq] at hv
        obtain ⟨e1, e2, e3⟩ := hv
        -- the mark is a beginning of what stands there: it ends ahead of the end, or holds it
        rcases Nat.lt_or_ge (e :: t').length mk.length with hl | hl
        · have : (13 : UInt8) ∈ mk := by
            have e4 : (mk ++ v)[(e :: t').length]? = ((e :: t') ++ 13 :: 10 :: (mk ++ r))[(e :: t').length]? := by rw [e3]
            rw [List.getElem?_append_left hl, List.getElem?_append_right (Nat.le_refl _), Nat.sub_self] at e4
            exact List.mem_of_getElem? e4
          exact h13 this
        · have e4 : mk = (e :: t').take mk.length := by
            have := congrArg (List.take mk.length) e3
            rw [List.take_left, List.take_append_of_le_length hl] at this
            exact this
          refine h [c, d] ((e :: t').drop mk.length) ?_
          rw [List.append_assoc]
          show _ = c :: d :: (mk ++ _)
          have e5 := List.take_append_drop mk.length (e :: t')
          rw [← e4] at e5
          rw [e5]
def divTextM (mk : TextH) : List TextH → TextH
  | [] => mk ++ [45, 45, 13, 10]
  | t :: l => mk ++ 13 :: 10 :: (t ++ 13 :: 10 :: divTextM mk l)
theorem divtext_mk (mk : TextH) : ∀ l : List TextH, ∃ r, divTextM mk l = mk ++ r
  | [] => ⟨_, rfl⟩
  | _ :: _ => ⟨_, rfl⟩
theorem next_none {mk : TextH} : ∀ {s : TextH}, (∀ u v, s ≠ u ++ 13 :: 10 :: (mk ++ v)) → nextM mk s = none
  | [], _ => rfl
  | c :: s, h => by
    unfold nextM
    rw [if_neg, next_none (s := s) (fun u v e => h (c :: u) v (by rw [e]; rfl))]
    · rfl
    · intro hp
      obtain ⟨v, hv⟩ := List.isPrefixOf_iff_prefix.1 hp
      exact h [] v (by rw [← hv]; rfl)
theorem divn_text {mk : TextH} (h13 : (13 : UInt8) ∉ mk) (h10 : (10 : UInt8) ∉ mk) (hmk : mk ≠ []) : ∀ (l : List TextH) (n : Nat), (∀ t ∈ l, ∀ u v, t ≠ u ++ mk ++ v) → l.length < n →
    ∀ s, divTextM mk l = mk ++ s → divN n mk s = some l
  | [], n, _, hn, s, hs => by
    match n, hn with
    | n + 1, _ =>
      obtain rfl : [45, 45, 13, 10] = s := List.append_cancel_left hs
      have : nextM mk [45, 45, 13, 10] = none := next_none fun u v e => by
        have hl := congrArg List.length e
        simp only [List.length_append, List.length_cons, List.length_nil] at hl
        have hm : 1 ≤ mk.length := by
          match mk, hmk with
          | _ :: _, _ => simp
        have : u.length ≤ 1 := by omega
        match u, this with
        | [], _ => simp at e
        | [x], _ => simp at e
      unfold divN
      rw [this]
      rfl
  | t :: l, n, h, hn, s, hs => by
    match n, hn with
    | n + 1, hn =>
      obtain ⟨r, hr⟩ := divtext_mk mk l
      have e : s = 13 :: 10 :: (t ++ 13 :: 10 :: (mk ++ r)) := by
        rw [← hr]
        exact (List.append_cancel_left hs).symm
      have hx : nextM mk s = some (13 :: 10 :: t, r) := by
        rw [e]
        refine next_here h13 (13 :: 10 :: t) r (fun u v ee => ?_)
        match u, ee with
        | [], ee =>
          match mk, hmk, h13, ee with
          | m :: ms, _, h13, ee =>
            simp only [List.nil_append, List.cons_append, List.cons.injEq] at ee
            exact h13 (by rw [ee.1]; exact List.mem_cons_self ..)
        | [x], ee =>
          match mk, hmk, h13, ee with
          | m :: ms, _, _, ee =>
            simp only [List.cons_append, List.nil_append, List.cons.injEq] at ee
            exact h10 (by rw [← ee.2.1]; exact List.mem_cons_self ..)
        | x :: y :: u, ee =>
          simp only [List.cons_append, List.cons.injEq] at ee
          exact h t (List.mem_cons_self ..) u v (by rw [ee.2.2])
      unfold divN
      rw [hx]
      show (divN n mk r).map (t :: ·) = _
      rw [divn_text h13 h10 hmk l n (fun t ht => h t (List.mem_cons_of_mem _ ht)) (by simp at hn; omega) r hr]
      rfl
end Go.Proofs.YtjikghndoklajaaGreatDoor
