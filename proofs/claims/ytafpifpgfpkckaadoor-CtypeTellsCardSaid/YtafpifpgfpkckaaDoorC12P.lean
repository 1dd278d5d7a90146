/-
  Content types as texts: what is right, how they are printed, what a text tells. Plain facts: no program.
-/
import Derived.Test.YtafpifpgfpkckaaDoorA11B
import Derived.Lib.Case
namespace Go.Proofs.YtafpifpgfpkckaaDoor

abbrev ParC := TextA × TextA
abbrev TypeC := TextA × TextA × List ParC
def marksC : TextA := [33, 35, 36, 38, 45, 94, 95, 46, 43]
def tokC (c : UInt8) : Bool := lowA c || marksC.contains c
def gapC (c : UInt8) : Bool := c == 32 || c == 9
def inNameC (c : UInt8) : Bool := decide (65 ≤ c.toNat ∧ c.toNat ≤ 90) || tokC c
def tokT (s : TextA) : Bool := decide (1 ≤ s.length) && (decide (s.length ≤ 64) && s.all tokC)
def valT (s : TextA) : Bool := decide (s.length ≤ 70) && s.all nameCA
def hasC (l : List ParC) (n : TextA) : Bool := l.any fun p => p.1 == n
def parsC : List ParC → Bool
  | [] => true
  | p :: l => tokT p.1 && (valT p.2 && (!(hasC l p.1) && parsC l))
def rightC (t : TypeC) : Bool := tokT t.1 && (tokT t.2.1 && (decide (t.2.2.length ≤ 8) && parsC t.2.2))
def findC (l : List ParC) (n : TextA) : Option ParC := l.find? fun p => p.1 == n

/-- How a type is told. -/
def valTextC (v : TextA) : TextA := if tokT v = true then v else quoteA v
def parTextC (p : ParC) : TextA := [59, 32] ++ (p.1 ++ (61 :: valTextC p.2))
def textC (t : TypeC) : TextA := t.1 ++ (47 :: (t.2.1 ++ t.2.2.flatMap parTextC))
def printC (t : TypeC) : TextA × Int := if rightC t = true then (textC t, 0) else ([], 2)

/-- What a text tells. -/
def wordC (s : TextA) : TextA := (s.takeWhile inNameC).map Lib.lowerB
def valueC (s : TextA) : Option (TextA × TextA) := match cutA 34 s with
  | some r => hearA false [] r
  | none => if tokT (s.takeWhile tokC) = true then some (s.takeWhile tokC, s.dropWhile tokC) else none
def paramC (s : TextA) : Option (ParC × TextA) := match cutA 61 (s.dropWhile inNameC) with
  | none => none
  | some r => match valueC r with
    | none => none
    | some (v, u) => some ((wordC s, v), u)
def moreC : Nat → List ParC → TextA → Option (List ParC)
  | 0, _, _ => none
  | n + 1, l, s => match cutA 59 s with
    | none => if s = [] then some l else none
    | some r => match paramC (r.dropWhile gapC) with
      | none => none
      | some (p, u) => if l.length = 8 then none else moreC n (l ++ [p]) (u.dropWhile gapC)
def readC (s : TextA) : Option TypeC := match cutA 47 ((s.dropWhile gapC).dropWhile inNameC) with
  | none => none
  | some r => match moreC (s.length + 1) [] ((r.dropWhile inNameC).dropWhile gapC) with
    | none => none
    | some l => some (wordC (s.dropWhile gapC), wordC r, l)
def parseC (s : TextA) : Option TypeC := match readC s with
  | none => none
  | some t => if rightC t = true then some t else none

/-- Read as the document's answer does: as many as there are. -/
def moreQ : Nat → List ParC → TextA → Option (List ParC)
  | 0, _, _ => none
  | n + 1, l, s => match cutA 59 s with
    | none => if s = [] then some l else none
    | some r => match paramC (r.dropWhile gapC) with
      | none => none
      | some (p, u) => moreQ n (l ++ [p]) (u.dropWhile gapC)
def readQ (s : TextA) : Option TypeC := match cutA 47 ((s.dropWhile gapC).dropWhile inNameC) with
  | none => none
  | some r => match moreQ (s.length + 1) [] ((r.dropWhile inNameC).dropWhile gapC) with
    | none => none
    | some l => some (wordC (s.dropWhile gapC), wordC r, l)
theorem moreq_long : ∀ (n : Nat) (l : List ParC) (s : TextA) (x : List ParC), moreQ n l s = some x → l.length ≤ x.length
  | 0, _, _, _, h => by cases h
  | n + 1, l, s, x, h => by
    unfold moreQ at h
    split at h
    · split at h
      · cases h
        exact Nat.le_refl _
      · cases h
    · split at h
      · cases h
      · have := moreq_long n _ _ _ h
        rw [List.length_append] at this
        exact Nat.le_trans (Nat.le_add_right _ _) this
theorem more_some : ∀ (n : Nat) (l : List ParC) (s : TextA) (x : List ParC), moreC n l s = some x → moreQ n l s = some x
  | 0, _, _, _, h => by cases h
  | n + 1, l, s, x, h => by
    unfold moreC at h
    unfold moreQ
    split at h
    · exact h
    · split at h
      · cases h
      · split at h
        · cases h
        · exact more_some n _ _ _ h
theorem more_few : ∀ (n : Nat) (l : List ParC) (s : TextA) (x : List ParC), moreQ n l s = some x → x.length ≤ 8 → moreC n l s = some x
  | 0, _, _, _, h, _ => by cases h
  | n + 1, l, s, x, h, hx => by
    unfold moreQ at h
    unfold moreC
    split at h
    · exact h
    · split at h
      · cases h
      · have h3 := moreq_long n _ _ _ h
        rw [List.length_append, List.length_singleton] at h3
        rw [if_neg (by omega)]
        exact more_few n _ _ _ h hx
theorem parse_sameC (s : TextA) : (match readQ s with
    | none => none
    | some t => if rightC t = true then some t else none) = parseC s := by
  unfold parseC readQ readC
  cases h1 : cutA 47 ((s.dropWhile gapC).dropWhile inNameC) with
  | none => rfl
  | some r =>
    simp only
    cases h2 : moreQ (s.length + 1) [] ((r.dropWhile inNameC).dropWhile gapC) with
    | none =>
      cases h3 : moreC (s.length + 1) [] ((r.dropWhile inNameC).dropWhile gapC) with
      | none => rfl
      | some x =>
        rw [more_some _ _ _ _ h3] at h2
        cases h2
    | some x =>
      by_cases hx : x.length ≤ 8
      · rw [more_few _ _ _ _ h2 hx]
      · simp only
        rw [if_neg (by
          intro h
          unfold rightC at h
          simp only [Bool.and_eq_true, decide_eq_true_eq] at h
          exact hx h.2.2.1)]
        cases h3 : moreC (s.length + 1) [] ((r.dropWhile inNameC).dropWhile gapC) with
        | none => rfl
        | some y =>
          rw [more_some _ _ _ _ h3] at h2
          cases h2
          simp only
          rw [if_neg (by
            intro h
            unfold rightC at h
            simp only [Bool.and_eq_true, decide_eq_true_eq] at h
            exact hx h.2.2.1)]
theorem parse_right {s : TextA} {t : TypeC} (h : parseC s = some t) : rightC t = true := by
  unfold parseC at h
  split at h
  · cases h
  · split at h
    · rename_i h1
      cases h
      exact h1
    · cases h

/-- Bytes. -/
theorem tok_name {c : UInt8} (h : tokC c = true) : inNameC c = true := by
  unfold inNameC
  rw [h, Bool.or_true]
theorem tok_low {c : UInt8} (h : tokC c = true) : Lib.lowerB c = c := by
  unfold Lib.lowerB
  cases hu : Lib.isUpperB c with
  | false => rfl
  | true =>
    exfalso
    unfold Lib.isUpperB at hu
    rw [Bool.and_eq_true, decide_eq_true_eq, decide_eq_true_eq, UInt8.le_iff_toNat_le, UInt8.le_iff_toNat_le] at hu
    have h1 : 65 ≤ c.toNat := hu.1
    have h2 : c.toNat ≤ 90 := hu.2
    unfold tokC lowA at h
    simp only [Bool.or_eq_true, decide_eq_true_eq] at h
    rcases h with (h | h) | h
    · omega
    · omega
    · have h3 : c ∈ marksC := by simpa using h
      simp only [marksC, List.mem_cons, List.not_mem_nil, or_false] at h3
      rcases h3 with rfl | rfl | rfl | rfl | rfl | rfl | rfl | rfl | rfl <;> revert h1 h2 <;> decide
theorem name_gap {c : UInt8} (h : inNameC c = true) : gapC c = false := by
  unfold gapC
  rw [Bool.or_eq_false_iff, beq_eq_false_iff_ne, beq_eq_false_iff_ne]
  constructor
  · rintro rfl
    exact absurd h (by decide)
  · rintro rfl
    exact absurd h (by decide)
/-- What may stand behind a word, a value: nothing, a blank, a tab, a semicolon. -/
def EndsC (r : TextA) : Prop := ∀ c t, r = c :: t → gapC c = true ∨ c = 59
theorem ends_out {r : TextA} (h : EndsC r) : ∀ c t, r = c :: t → inNameC c = false := by
  intro c t e
  rcases h c t e with h | rfl
  · cases hn : inNameC c with
    | false => rfl
    | true =>
      rw [name_gap hn] at h
      cases h
  · decide
theorem ends_outT {r : TextA} (h : EndsC r) : ∀ c t, r = c :: t → tokC c = false := by
  intro c t e
  cases hn : tokC c with
  | false => rfl
  | true =>
    have := ends_out h c t e
    rw [tok_name hn] at this
    cases this
theorem ends_app {g r : TextA} (hg : g.all gapC = true) (h : EndsC r) : EndsC (g ++ r) := by
  cases g with
  | nil => exact h
  | cons c g =>
    intro d t e
    rw [List.all_cons, Bool.and_eq_true] at hg
    rw [List.cons_append] at e
    cases e
    exact .inl hg.1
theorem ends_gap {g : TextA} (hg : g.all gapC = true) : EndsC g := by
  have := ends_app hg (r := []) (fun c t e => by cases e)
  rwa [List.append_nil] at this
theorem take_out {p : UInt8 → Bool} {l r : TextA} (hl : l.all p = true) (hr : ∀ c t, r = c :: t → p c = false) : (l ++ r).takeWhile p = l ∧ (l ++ r).dropWhile p = r := by
  cases r with
  | nil =>
    rw [List.append_nil]
    exact take_end l hl
  | cons c t => exact take_to c t (hr c t rfl) l hl
theorem drop_gap (g r : TextA) (hg : g.all gapC = true) : (g ++ r).dropWhile gapC = r.dropWhile gapC := by
  induction g with
  | nil => rfl
  | cons c g ih =>
    rw [List.all_cons, Bool.and_eq_true] at hg
    rw [List.cons_append, List.dropWhile_cons, hg.1, if_pos rfl, ih hg.2]
theorem gap_none {g : TextA} (hg : g.all gapC = true) : g.dropWhile gapC = [] := (take_end g hg).2

/-- A parameter as it may be told: what stands ahead of its semicolon, behind it, its name, its value, what stands behind that. -/
structure FormC where
  a : TextA
  b : TextA
  n : TextA
  v : TextA
  z : TextA
def FormC.text (f : FormC) : TextA := f.a ++ (59 :: (f.b ++ (f.n ++ (61 :: (f.v ++ f.z)))))
structure GoodC (f : FormC) (p : ParC) : Prop where
  a : f.a.all gapC = true
  b : f.b.all gapC = true
  z : f.z.all gapC = true
  n : f.n.all inNameC = true
  e : f.n.map Lib.lowerB = p.1
  v : ∀ r, EndsC r → valueC (f.v ++ r) = some (p.2, r)
theorem ends_form {f : FormC} {p : ParC} (h : GoodC f p) (r : TextA) : EndsC (f.text ++ r) := by
  unfold FormC.text
  rw [List.append_assoc]
  exact ends_app h.a (fun c t e => by
    rw [List.cons_append] at e
    cases e
    exact .inr rfl)
theorem ends_forms {f : ParC → FormC} : ∀ {l : List ParC} (_ : ∀ p ∈ l, GoodC (f p) p) {r : TextA} (_ : r.all gapC = true), EndsC (l.flatMap (fun p => (f p).text) ++ r)
  | [], _, r, hr => ends_gap hr
  | p :: l, h, r, hr => by
    rw [List.flatMap_cons, List.append_assoc]
    exact ends_form (h p (List.mem_cons_self ..)) _
theorem more_forms {f : ParC → FormC} : ∀ (l pre : List ParC) (n : Nat) (r : TextA), (∀ p ∈ l, GoodC (f p) p) → r.all gapC = true → pre.length + l.length ≤ 8 → l.length < n →
    moreC n pre ((l.flatMap (fun p => (f p).text) ++ r).dropWhile gapC) = some (pre ++ l)
  | [], pre, n, r, _, hr, _, hn => by
    obtain ⟨n, rfl⟩ : ∃ m, n = m + 1 := ⟨n - 1, by simp at hn; omega⟩
    rw [List.flatMap_nil, List.nil_append, gap_none hr, List.append_nil]
    rfl
  | p :: l, pre, n, r, h, hr, h8, hn => by
    obtain ⟨n, rfl⟩ : ∃ m, n = m + 1 := ⟨n - 1, by simp at hn; omega⟩
    have hp := h p (List.mem_cons_self ..)
    have hl := fun q hq => h q (List.mem_cons_of_mem _ hq)
    simp at h8 hn
    obtain ⟨R, hR⟩ : ∃ R, l.flatMap (fun p => (f p).text) ++ r = R := ⟨_, rfl⟩
    have hER : EndsC R := by rw [← hR]; exact ends_forms hl hr
    have e1 : (List.flatMap (fun p => (f p).text) (p :: l) ++ r).dropWhile gapC = 59 :: ((f p).b ++ ((f p).n ++ (61 :: ((f p).v ++ ((f p).z ++ R))))) := by
      rw [List.flatMap_cons, List.append_assoc, hR]
      unfold FormC.text
      simp only [List.append_assoc, List.cons_append]
      rw [drop_gap _ _ hp.a]
      rfl
    have e2 : ((f p).b ++ ((f p).n ++ (61 :: ((f p).v ++ ((f p).z ++ R))))).dropWhile gapC = (f p).n ++ (61 :: ((f p).v ++ ((f p).z ++ R))) := by
      rw [drop_gap _ _ hp.b]
      have hn2 := hp.n
      generalize (f p).n = m at hn2 ⊢
      cases m with
      | nil => rfl
      | cons c m =>
        rw [List.all_cons, Bool.and_eq_true] at hn2
        rw [List.cons_append, List.dropWhile_cons, name_gap hn2.1]
        rfl
    obtain ⟨t1, t2⟩ := take_to (p := inNameC) 61 ((f p).v ++ ((f p).z ++ R)) (by decide) (f p).n hp.n
    have e3 : paramC ((f p).n ++ (61 :: ((f p).v ++ ((f p).z ++ R)))) = some (p, (f p).z ++ R) := by
      unfold paramC wordC
      rw [t1, t2, cutA_cons, if_pos rfl]
      simp only
      rw [hp.v _ (ends_app hp.z hER), hp.e]
    rw [e1]
    unfold moreC
    rw [cutA_cons, if_pos rfl]
    simp only
    rw [e2, e3]
    simp only
    rw [if_neg (by omega), drop_gap _ _ hp.z, ← hR]
    have := more_forms l (pre ++ [p]) n r hl hr (by simp; omega) (by omega)
    rw [this, List.append_assoc]
    rfl
theorem forms_len {f : ParC → FormC} : ∀ l : List ParC, l.length ≤ (l.flatMap (fun p => (f p).text)).length
  | [] => Nat.le_refl _
  | p :: l => by
    have := forms_len (f := f) l
    rw [List.flatMap_cons, List.length_append, List.length_cons]
    have h2 : 1 ≤ ((f p).text).length := by
      unfold FormC.text
      rw [List.length_append, List.length_cons]
      omega
    omega
/-- Whatever tells a right type in such a way tells just that. -/
theorem parse_forms {f : ParC → FormC} (t : TypeC) (g m s r : TextA) (ht : rightC t = true) (hg : g.all gapC = true) (hm : m.all inNameC = true) (em : m.map Lib.lowerB = t.1) (hs : s.all inNameC = true) (es : s.map Lib.lowerB = t.2.1)
    (hf : ∀ p ∈ t.2.2, GoodC (f p) p) (hr : r.all gapC = true) : parseC (g ++ (m ++ (47 :: (s ++ (t.2.2.flatMap (fun p => (f p).text) ++ r))))) = some t := by
  have hrt := ht
  unfold rightC at ht
  simp only [Bool.and_eq_true, decide_eq_true_eq] at ht
  obtain ⟨h1, h2, h3, h4⟩ := ht
  obtain ⟨R, hR⟩ : ∃ R, t.2.2.flatMap (fun p => (f p).text) ++ r = R := ⟨_, rfl⟩
  have hER : EndsC R := by rw [← hR]; exact ends_forms hf hr
  obtain ⟨a1, a2⟩ := take_to (p := inNameC) 47 (s ++ R) (by decide) m hm
  obtain ⟨b1, b2⟩ := take_out (p := inNameC) (l := s) (r := R) hs (ends_out hER)
  have e1 : (g ++ (m ++ (47 :: (s ++ R)))).dropWhile gapC = m ++ (47 :: (s ++ R)) := by
    rw [drop_gap _ _ hg]
    generalize m = m at hm
    cases m with
    | nil => rfl
    | cons c m =>
      rw [List.all_cons, Bool.and_eq_true] at hm
      rw [List.cons_append, List.dropWhile_cons, name_gap hm.1]
      rfl
  have hlen : t.2.2.length < (g ++ (m ++ (47 :: (s ++ R)))).length + 1 := by
    have h5 := forms_len (f := f) t.2.2
    have h6 : R.length = (t.2.2.flatMap (fun p => (f p).text)).length + r.length := by rw [← hR, List.length_append]
    simp only [List.length_append, List.length_cons]
    omega
  have h7 := more_forms (f := f) t.2.2 [] ((g ++ (m ++ (47 :: (s ++ R)))).length + 1) r hf hr (by simpa using h3) hlen
  rw [hR, List.nil_append] at h7
  unfold parseC readC
  rw [hR, e1, a2, cutA_cons, if_pos rfl]
  simp only
  rw [b2, h7]
  simp only
  unfold wordC
  rw [a1, b1, em, es]
  rw [if_pos hrt]
theorem all_low {s : TextA} (h : s.all tokC = true) : s.all inNameC = true ∧ s.map Lib.lowerB = s := by
  induction s with
  | nil => exact ⟨rfl, rfl⟩
  | cons c s ih =>
    rw [List.all_cons, Bool.and_eq_true] at h
    obtain ⟨a, b⟩ := ih h.2
    rw [List.all_cons, a, tok_name h.1, List.map_cons, b, tok_low h.1]
    exact ⟨rfl, rfl⟩
theorem tok_all {s : TextA} (h : tokT s = true) : s.all tokC = true ∧ 1 ≤ s.length ∧ s.length ≤ 64 := by
  unfold tokT at h
  simp only [Bool.and_eq_true, decide_eq_true_eq] at h
  exact ⟨h.2.2, h.1, h.2.1⟩
theorem value_text (v r : TextA) (hr : EndsC r) : valueC (valTextC v ++ r) = some (v, r) := by
  unfold valTextC
  cases h : tokT v with
  | true =>
    rw [if_pos rfl]
    obtain ⟨h1, h2, h3⟩ := tok_all h
    obtain ⟨t1, t2⟩ := take_out h1 (ends_outT hr)
    have hc : cutA 34 (v ++ r) = none := by
      cases v with
      | nil => simp at h2
      | cons c v =>
        rw [List.all_cons, Bool.and_eq_true] at h1
        rw [List.cons_append, cutA_cons, if_neg]
        rintro rfl
        exact absurd h1.1 (by decide)
    unfold valueC
    rw [hc]
    simp only
    rw [t1, t2, h, if_pos rfl]
  | false =>
    rw [if_neg (by simp)]
    unfold quoteA valueC
    rw [List.cons_append, cutA_cons, if_pos rfl, List.append_assoc]
    exact hear_tell r v []
def slashC (v : TextA) : TextA := v.flatMap fun c => [92, c]
theorem hear_slash (r : TextA) : ∀ (n acc : TextA), hearA false acc (slashC n ++ 34 :: r) = some (acc ++ n, r)
  | [], acc => by
    rw [List.append_nil]
    rfl
  | c :: n, acc => by
    have := hear_slash r n (acc ++ [c])
    rw [List.append_assoc] at this
    exact this
theorem value_slash (v r : TextA) : valueC ((34 :: (slashC v ++ [34])) ++ r) = some (v, r) := by
  unfold valueC
  rw [List.cons_append, cutA_cons, if_pos rfl, List.append_assoc]
  exact hear_slash r v []
theorem pars_tok : ∀ {l : List ParC}, parsC l = true → ∀ p ∈ l, tokT p.1 = true ∧ valT p.2 = true
  | p :: l, h, q, hq => by
    unfold parsC at h
    simp only [Bool.and_eq_true] at h
    rcases List.mem_cons.1 hq with rfl | hq
    · exact ⟨h.1, h.2.1⟩
    · exact pars_tok h.2.2.2 q hq
/-- What was printed is parsed, with blanks and tabs around it. -/
theorem print_back (t : TypeC) (g r : TextA) (ht : rightC t = true) (hg : g.all gapC = true) (hr : r.all gapC = true) : parseC (g ++ (textC t ++ r)) = some t := by
  have h0 := ht
  unfold rightC at h0
  simp only [Bool.and_eq_true, decide_eq_true_eq] at h0
  obtain ⟨h1, h2, h3, h4⟩ := h0
  have hf : ∀ p ∈ t.2.2, GoodC (⟨[], [32], p.1, valTextC p.2, []⟩ : FormC) p := fun p hp => by
    have hk := all_low (tok_all (pars_tok h4 p hp).1).1
    exact ⟨rfl, rfl, rfl, hk.1, hk.2, fun r hr => value_text p.2 r hr⟩
  have a1 := all_low (tok_all h1).1
  have a2 := all_low (tok_all h2).1
  have := parse_forms (f := fun p => ⟨[], [32], p.1, valTextC p.2, []⟩) t g t.1 t.2.1 r ht hg a1.1 a1.2 a2.1 a2.2 hf hr
  have e : ∀ l : List ParC, l.flatMap (fun p => (⟨[], [32], p.1, valTextC p.2, []⟩ : FormC).text) = l.flatMap parTextC := fun l => by
    congr 1
    funext p
    unfold FormC.text parTextC
    simp
  rw [e] at this
  rw [← this]
  unfold textC
  simp
/-- Right parameters: one by one. -/
theorem has_iff (l : List ParC) (n : TextA) : hasC l n = true ↔ ∃ p ∈ l, p.1 = n := by
  unfold hasC
  simp
theorem pars_snoc : ∀ (l : List ParC) (p : ParC), parsC (l ++ [p]) = (parsC l && (tokT p.1 && (valT p.2 && !(hasC l p.1))))
  | [], p => by
    show (tokT p.1 && (valT p.2 && (!false && true))) = (true && (tokT p.1 && (valT p.2 && !false)))
    simp
  | q :: l, p => by
    have e1 : hasC (l ++ [p]) q.1 = (hasC l q.1 || (p.1 == q.1)) := by
      unfold hasC
      simp
    have e2 : hasC (q :: l) p.1 = ((q.1 == p.1) || hasC l p.1) := rfl
    have e3 : (p.1 == q.1) = (q.1 == p.1) := by
      by_cases h : p.1 = q.1
      · rw [h]
      · rw [beq_eq_false_iff_ne.2 h, beq_eq_false_iff_ne.2 (fun e => h e.symm)]
    show (tokT q.1 && (valT q.2 && (!(hasC (l ++ [p]) q.1) && parsC (l ++ [p])))) = ((tokT q.1 && (valT q.2 && (!(hasC l q.1) && parsC l))) && (tokT p.1 && (valT p.2 && !(hasC (q :: l) p.1))))
    rw [pars_snoc l p, e1, e2, e3]
    generalize tokT q.1 = b1, valT q.2 = b2, hasC l q.1 = b3, (q.1 == p.1) = b4, parsC l = b5, tokT p.1 = b6, valT p.2 = b7, hasC l p.1 = b8
    revert b1 b2 b3 b4 b5 b6 b7 b8
    decide
theorem right_snoc {t : TypeC} {l : List ParC} {p : ParC} (ht : rightC t = true) (e : t.2.2 = l ++ [p]) : rightC (t.1, t.2.1, l) = true := by
  unfold rightC at ht ⊢
  rw [e, pars_snoc] at ht
  simp only [Bool.and_eq_true, decide_eq_true_eq, List.length_append, List.length_singleton] at ht ⊢
  exact ⟨ht.1, ht.2.1, by omega, ht.2.2.2.1⟩
theorem find_snoc {l : List ParC} {p : ParC} (h : hasC l p.1 = false) : findC (l ++ [p]) p.1 = some p := by
  unfold findC
  rw [List.find?_append]
  have : l.find? (fun q => q.1 == p.1) = none := by
    rw [List.find?_eq_none]
    intro q hq e
    have h2 : hasC l p.1 = true := List.any_eq_true.2 ⟨q, hq, e⟩
    rw [h] at h2
    cases h2
  rw [this]
  simp
/-- Sizes. -/
theorem tokt_len {s : TextA} (h : tokT s = true) : s.length ≤ 64 := (tok_all h).2.2
theorem valt_len {s : TextA} (h : valT s = true) : s.length ≤ 70 := by
  unfold valT at h
  simp only [Bool.and_eq_true, decide_eq_true_eq] at h
  exact h.1
theorem valtext_len (v : TextA) : (valTextC v).length ≤ 2 * v.length + 2 := by
  unfold valTextC quoteA
  have := tells_len v
  split
  · omega
  · simp only [List.length_cons, List.length_append, List.length_nil]
    omega
theorem partext_len (p : ParC) : (parTextC p).length ≤ p.1.length + 2 * p.2.length + 5 := by
  unfold parTextC
  have := valtext_len p.2
  simp only [List.length_cons, List.length_append, List.length_nil]
  omega
theorem pars_len : ∀ l : List ParC, (∀ p ∈ l, p.1.length ≤ 64 ∧ p.2.length ≤ 70) → (l.flatMap parTextC).length ≤ 300 * l.length
  | [], _ => by simp
  | p :: l, h => by
    have h1 := pars_len l (fun q hq => h q (List.mem_cons_of_mem _ hq))
    have h2 := partext_len p
    have h3 := h p (List.mem_cons_self ..)
    rw [List.flatMap_cons, List.length_append, List.length_cons]
    omega
theorem right_parts {t : TypeC} (h : rightC t = true) : t.1.length ≤ 64 ∧ t.2.1.length ≤ 64 ∧ t.2.2.length ≤ 8 ∧ ∀ p ∈ t.2.2, p.1.length ≤ 64 ∧ p.2.length ≤ 70 := by
  unfold rightC at h
  simp only [Bool.and_eq_true, decide_eq_true_eq] at h
  exact ⟨tokt_len h.1, tokt_len h.2.1, h.2.2.1, fun p hp => ⟨tokt_len (pars_tok h.2.2.2 p hp).1, valt_len (pars_tok h.2.2.2 p hp).2⟩⟩
theorem text_lenC {t : TypeC} (h : rightC t = true) : (textC t).length ≤ 3000 := by
  obtain ⟨h1, h2, h3, h4⟩ := right_parts h
  have := pars_len t.2.2 h4
  unfold textC
  simp only [List.length_cons, List.length_append]
  omega
end Go.Proofs.YtafpifpgfpkckaaDoor
