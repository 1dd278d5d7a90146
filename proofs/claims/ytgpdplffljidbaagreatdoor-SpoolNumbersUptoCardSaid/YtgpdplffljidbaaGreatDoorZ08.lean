/-
  Texts of this proof, put together: W8P, W8T, W8S, S16P.
-/
import GoSem.Op.String
import Derived.Lib.Strings
import Derived.Test.YtgpdplffljidbaaGreatDoorZ02
import Derived.Test.YtgpdplffljidbaaGreatDoorZ07
namespace Go.Proofs.YtgpdplffljidbaaGreatDoor

abbrev KeyP := List UInt8
abbrev lessP (a b : KeyP) : Bool := Op.bytesLess a b
theorem less_irrefl : ∀ a : KeyP, lessP a a = false
  | [] => rfl
  | a :: x => by
    show (decide (a < a) || (a == a && Op.bytesLess x x)) = false
    rw [show Op.bytesLess x x = false from less_irrefl x]
    simp
theorem less_trans : ∀ {a b c : KeyP}, lessP a b = true → lessP b c = true → lessP a c = true
  | x, [], _, h, _ => by
    have e : lessP x [] = false := by cases x <;> rfl
    rw [e] at h
    cases h
  | [], b :: y, [], _, h => by cases h
  | [], b :: y, c :: z, _, _ => rfl
  | a :: x, b :: y, [], _, h => by cases h
  | a :: x, b :: y, c :: z, h1, h2 => by
    replace h1 : (decide (a < b) || (a == b && Op.bytesLess x y)) = true := h1
    replace h2 : (decide (b < c) || (b == c && Op.bytesLess y z)) = true := h2
    show (decide (a < c) || (a == c && Op.bytesLess x z)) = true
    simp only [Bool.or_eq_true, decide_eq_true_eq, Bool.and_eq_true, beq_iff_eq] at h1 h2 ⊢
    rcases h1 with h1 | ⟨rfl, h1⟩
    · rcases h2 with h2 | ⟨rfl, h2⟩
      · exact .inl (UInt8.lt_trans h1 h2)
      · exact .inl h1
    · rcases h2 with h2 | ⟨rfl, h2⟩
      · exact .inl h2
      · exact .inr ⟨rfl, less_trans h1 h2⟩
theorem less_total : ∀ {a b : KeyP}, a ≠ b → lessP a b = false → lessP b a = true
  | [], [], h, _ => absurd rfl h
  | [], _ :: _, _, h => by cases h
  | _ :: _, [], _, _ => rfl
  | a :: x, b :: y, h, h1 => by
    replace h1 : (decide (a < b) || (a == b && Op.bytesLess x y)) = false := h1
    show (decide (b < a) || (b == a && Op.bytesLess y x)) = true
    simp only [Bool.or_eq_false_iff, decide_eq_false_iff_not, Bool.and_eq_false_iff, beq_eq_false_iff_ne] at h1
    simp only [Bool.or_eq_true, decide_eq_true_eq, Bool.and_eq_true, beq_iff_eq]
    by_cases e : a = b
    · subst e
      refine .inr ⟨rfl, less_total (fun e => h (by rw [e])) ?_⟩
      rcases h1.2 with h2 | h2
      · exact absurd rfl h2
      · exact h2
    · refine .inl ?_
      have h2 := h1.1
      rw [UInt8.not_lt] at h2
      exact UInt8.lt_of_le_of_ne h2 (fun e2 => e e2.symm)

abbrev PairP := KeyP × List UInt8
def SortedP (l : List PairP) : Prop := l.Pairwise fun a b => lessP a.1 b.1 = true
def findP (l : List PairP) (k : KeyP) : Option (List UInt8) := (l.find? fun p => p.1 == k).map (·.2)
structure Ch where
  key : KeyP
  val : List UInt8
  gone : Bool
def doneP (c : Ch) : Bool → List PairP → List PairP
  | todo, [] => if todo then [(c.key, c.val)] else []
  | todo, p :: l =>
    (if (todo && (lessP c.key p.1 || c.key == p.1)) = true then [(c.key, c.val)] else []) ++ ((if p.1 = c.key then [] else [p]) ++ doneP c (todo && !(lessP c.key p.1 || c.key == p.1)) l)
theorem sorted_cons {p : PairP} {l : List PairP} : SortedP (p :: l) ↔ (∀ q ∈ l, lessP p.1 q.1 = true) ∧ SortedP l := List.pairwise_cons
theorem done_off (c : Ch) : ∀ l : List PairP, doneP c false l = l.filter fun p => !(p.1 == c.key)
  | [] => rfl
  | p :: l => by
    unfold doneP
    rw [Bool.false_and, if_neg (by decide), Bool.false_and, done_off c l, List.nil_append, List.filter_cons]
    by_cases h : p.1 = c.key
    · rw [if_pos h, if_neg (by simp [h])]
      rfl
    · rw [if_neg h, if_pos (by simp [h])]
      rfl
theorem done_mem (c : Ch) : ∀ (t : Bool) (l : List PairP) (q : PairP), q ∈ doneP c t l → (q = (c.key, c.val) ∧ t = true) ∨ (q ∈ l ∧ q.1 ≠ c.key)
  | t, [], q, h => by
    unfold doneP at h
    split at h
    · rename_i ht
      exact .inl ⟨by simpa using h, ht⟩
    · cases h
  | t, p :: l, q, h => by
    unfold doneP at h
    rcases List.mem_append.1 h with h | h
    · split at h
      · rename_i ht
        simp only [Bool.and_eq_true] at ht
        exact .inl ⟨by simpa using h, ht.1⟩
      · cases h
    · rcases List.mem_append.1 h with h | h
      · split at h
        · cases h
        · rename_i hp
          have e : q = p := by simpa using h
          exact .inr ⟨by rw [e]; exact List.mem_cons_self .., by rw [e]; exact hp⟩
      · rcases done_mem c _ l q h with ⟨h1, h2⟩ | ⟨h1, h2⟩
        · simp only [Bool.and_eq_true] at h2
          exact .inl ⟨h1, h2.1⟩
        · exact .inr ⟨List.mem_cons_of_mem _ h1, h2⟩
theorem done_sorted (c : Ch) : ∀ (t : Bool) (l : List PairP), SortedP l → SortedP (doneP c t l)
  | t, [], _ => by
    unfold doneP
    split
    · exact List.pairwise_singleton ..
    · exact List.Pairwise.nil
  | t, p :: l, h => by
    obtain ⟨h1, h2⟩ := sorted_cons.1 h
    have ih := done_sorted c (t && !(lessP c.key p.1 || c.key == p.1)) l h2
    have hmem := done_mem c (t && !(lessP c.key p.1 || c.key == p.1)) l
    unfold doneP
    obtain ⟨r, hr⟩ : ∃ r, doneP c (t && !(lessP c.key p.1 || c.key == p.1)) l = r := ⟨_, rfl⟩
    rw [hr] at ih hmem ⊢
    -- behind p all is greater than p
    have hpr : p.1 ≠ c.key → ∀ q ∈ r, lessP p.1 q.1 = true := fun hne q hq => by
      rcases hmem q hq with ⟨rfl, ht⟩ | ⟨hq, _⟩
      · simp only [Bool.and_eq_true, Bool.not_eq_true', Bool.or_eq_false_iff] at ht
        exact less_total (fun e => hne e.symm) ht.2.1
      · exact h1 q hq
    have hmid : SortedP ((if p.1 = c.key then [] else [p]) ++ r) := by
      split
      · exact ih
      · rename_i hne
        exact sorted_cons.2 ⟨hpr hne, ih⟩
    split
    · rename_i ht
      simp only [Bool.and_eq_true, Bool.or_eq_true, beq_iff_eq] at ht
      refine sorted_cons.2 ⟨fun q hq => ?_, hmid⟩
      have hr0 : ∀ q ∈ r, q ∈ l ∧ q.1 ≠ c.key := fun q hq => by
        rcases hmem q hq with ⟨_, h3⟩ | h3
        · simp only [Bool.and_eq_true, Bool.not_eq_true', Bool.or_eq_false_iff, beq_eq_false_iff_ne] at h3
          rcases ht.2 with h4 | h4
          · rw [h4] at h3
            exact absurd h3.2.1 (by decide)
          · exact absurd h4 h3.2.2
        · exact h3
      replace hq : q ∈ (if p.1 = c.key then [] else [p]) ++ r := hq
      rcases List.mem_append.1 hq with hq | hq
      · split at hq
        · cases hq
        · rename_i hne
          have e : q = p := by simpa using hq
          rw [e]
          rcases ht.2 with h4 | h4
          · exact h4
          · exact absurd h4.symm hne
      · have h5 := h1 q (hr0 q hq).1
        rcases ht.2 with h4 | h4
        · exact less_trans h4 h5
        · show lessP c.key q.1 = true
          rw [h4]
          exact h5
    · exact hmid
theorem find_cons (p : PairP) (l : List PairP) (k : KeyP) : findP (p :: l) k = if p.1 = k then some p.2 else findP l k := by
  unfold findP
  rw [List.find?_cons]
  by_cases h : p.1 = k
  · rw [if_pos h, show (p.1 == k) = true by simp [h]]
    rfl
  · rw [if_neg h, show (p.1 == k) = false by simp [h]]
theorem find_done_other (c : Ch) {k : KeyP} (hk : k ≠ c.key) : ∀ (t : Bool) (l : List PairP), findP (doneP c t l) k = findP l k
  | t, [] => by
    unfold doneP
    split
    · rw [find_cons, if_neg (fun e => hk e.symm)]
    · rfl
  | t, p :: l => by
    have ih := find_done_other c hk (t && !(lessP c.key p.1 || c.key == p.1)) l
    unfold doneP
    have hmid : findP ((if p.1 = c.key then [] else [p]) ++ doneP c (t && !(lessP c.key p.1 || c.key == p.1)) l) k = findP (p :: l) k := by
      rw [find_cons]
      split
      · rename_i h
        rw [List.nil_append, if_neg (fun e => hk (by rw [← e, h]))]
        exact ih
      · rw [List.singleton_append, find_cons, ih]
    split
    · rw [List.singleton_append, find_cons, if_neg (fun e => hk e.symm)]
      exact hmid
    · rw [List.nil_append]
      exact hmid
theorem find_none_of {l : List PairP} {k : KeyP} (h : ∀ p ∈ l, p.1 ≠ k) : findP l k = none := by
  unfold findP
  rw [List.find?_eq_none.2 (fun p hp => by simp [h p hp])]
  rfl
theorem find_done_gone (c : Ch) (l : List PairP) : findP (doneP c false l) c.key = none := by
  refine find_none_of fun p hp => ?_
  rcases done_mem c false l p hp with ⟨_, h⟩ | ⟨_, h⟩
  · cases h
  · exact h
theorem find_done_self (c : Ch) : ∀ l : List PairP, SortedP l → findP (doneP c true l) c.key = some c.val
  | [], _ => by
    unfold doneP
    rw [if_pos rfl, find_cons, if_pos rfl]
  | p :: l, h => by
    obtain ⟨h1, h2⟩ := sorted_cons.1 h
    unfold doneP
    rw [Bool.true_and]
    by_cases ht : (lessP c.key p.1 || c.key == p.1) = true
    · rw [if_pos ht, List.singleton_append, find_cons, if_pos rfl]
    · have hf : (lessP c.key p.1 || c.key == p.1) = false := by simpa using ht
      rw [if_neg ht, hf, List.nil_append]
      simp only [Bool.or_eq_false_iff, beq_eq_false_iff_ne] at hf
      rw [if_neg (fun e => hf.2 e.symm), List.singleton_append, find_cons, if_neg (fun e => hf.2 e.symm)]
      exact find_done_self c l h2
theorem sorted_ext : ∀ {l l' : List PairP}, SortedP l → SortedP l' → (∀ k, findP l k = findP l' k) → l = l'
  | [], [], _, _, _ => rfl
  | [], p :: l, _, _, h => by
    have := h p.1
    rw [find_cons, if_pos rfl] at this
    cases this
  | p :: l, [], _, _, h => by
    have := h p.1
    rw [find_cons, if_pos rfl] at this
    cases this
  | p :: l, q :: l', h1, h2, h => by
    obtain ⟨a1, a2⟩ := sorted_cons.1 h1
    obtain ⟨b1, b2⟩ := sorted_cons.1 h2
    have hin : ∀ {m : List PairP} {k : KeyP} {x : List UInt8}, findP m k = some x → ∃ r ∈ m, r.1 = k ∧ r.2 = x := fun {m k x} hm => by
      unfold findP at hm
      obtain ⟨r, hr, e⟩ := Option.map_eq_some_iff.1 hm
      exact ⟨r, List.mem_of_find?_eq_some hr, by have := List.find?_some hr; simpa using this, e⟩
    have hp := h p.1
    have hq := h q.1
    rw [find_cons, if_pos rfl] at hp
    rw [find_cons q, if_pos rfl] at hq
    have hpq : p.1 = q.1 := by
      obtain ⟨r, hr, e, _⟩ := hin hp.symm
      obtain ⟨s, hs, e2, _⟩ := hin hq
      rcases List.mem_cons.1 hr with rfl | hr
      · exact e.symm
      · rcases List.mem_cons.1 hs with rfl | hs
        · exact e2
        · have h3 := b1 r hr
          have h4 := a1 s hs
          rw [e] at h3
          rw [e2] at h4
          have := less_trans h3 h4
          rw [less_irrefl] at this
          cases this
    have hv : p.2 = q.2 := by
      rw [find_cons, if_pos hpq.symm] at hp
      exact Option.some.inj hp
    have e : p = q := Prod.ext hpq hv
    subst e
    congr 1
    refine sorted_ext a2 b2 fun k => ?_
    have hk := h k
    rw [find_cons, find_cons] at hk
    by_cases hpk : p.1 = k
    · subst hpk
      have n1 : ∀ {m : List PairP}, (∀ r ∈ m, lessP p.1 r.1 = true) → findP m p.1 = none := fun {m} hm => find_none_of fun r hr e => by
        have := hm r hr
        rw [e, less_irrefl] at this
        cases this
      rw [n1 a1, n1 b1]
    · rw [if_neg hpk, if_neg hpk] at hk
      exact hk
end Go.Proofs.YtgpdplffljidbaaGreatDoor
namespace Go.Proofs.YtgpdplffljidbaaGreatDoor

def two8 (n : Nat) : List UInt8 := [UInt8.ofNat (n / 256), UInt8.ofNat n]
def val2 (a b : UInt8) : Nat := a.toNat * 256 + b.toNat
theorem val_two {n : Nat} (h : n ≤ 65535) : val2 (UInt8.ofNat (n / 256)) (UInt8.ofNat n) = n := by
  unfold val2
  simp only [UInt8.toNat_ofNat']
  omega
def Ch.says (c : Ch) : List UInt8 := if c.gone then [] else c.val
def Ch.norm (c : Ch) : Ch := ⟨c.key, c.says, c.gone⟩
def Ch.fits (c : Ch) : Prop := c.key.length ≤ 65535 ∧ c.val.length ≤ 65535
def printC (c : Ch) : List UInt8 := (if c.gone then 1 else 0) :: (two8 c.key.length ++ (two8 c.says.length ++ (c.key ++ c.says)))
def printL (l : List Ch) : List UInt8 := l.flatMap printC
theorem printC_len (c : Ch) : (printC c).length = 5 + c.key.length + c.says.length := by
  unfold printC two8
  simp
  omega
theorem says_fits {c : Ch} (h : c.fits) : c.says.length ≤ 65535 := by
  unfold Ch.says
  split
  · exact Nat.zero_le _
  · exact h.2
def headL : List UInt8 → Option (Ch × List UInt8)
  | g :: k1 :: k2 :: v1 :: v2 :: r =>
    if 1 < g.toNat ∨ r.length < val2 k1 k2 + val2 v1 v2 ∨ (g = 1 ∧ 0 < val2 v1 v2) then none
    else some (⟨r.take (val2 k1 k2), (r.drop (val2 k1 k2)).take (val2 v1 v2), g == 1⟩, r.drop (val2 k1 k2 + val2 v1 v2))
  | _ => none
theorem head_less {s r : List UInt8} {c : Ch} (h : headL s = some (c, r)) : r.length < s.length := by
  unfold headL at h
  split at h
  · split at h
    · cases h
    · simp only [Option.some.injEq, Prod.mk.injEq] at h
      rw [← h.2, List.length_drop]
      simp only [List.length_cons]
      omega
  · cases h
def parseL : Nat → List UInt8 → Option (List Ch)
  | _, [] => some []
  | 0, _ :: _ => none
  | f + 1, b :: s =>
    match headL (b :: s) with
    | none => none
    | some (c, r) => (parseL f r).map (c :: ·)
theorem parse_fuel : ∀ (f f' : Nat) (s : List UInt8), s.length ≤ f → s.length ≤ f' → parseL f s = parseL f' s
  | _, _, [], _, _ => by
    rw [parseL.eq_def, parseL.eq_def]
  | 0, _, b :: s, h, _ => by simp at h
  | _ + 1, 0, b :: s, _, h => by simp at h
  | f + 1, f' + 1, b :: s, h, h' => by
    rw [parseL, parseL]
    cases hh : headL (b :: s) with
    | none => rfl
    | some p =>
      obtain ⟨c, r⟩ := p
      have := head_less hh
      simp only [List.length_cons] at h h' this
      show (parseL f r).map _ = (parseL f' r).map _
      rw [parse_fuel f f' r (by omega) (by omega)]
theorem head_print {c : Ch} (h : c.fits) (r : List UInt8) : headL (printC c ++ r) = some (c.norm, r) := by
  have hk := val_two h.1
  have hv := val_two (says_fits h)
  have hs : printC c ++ r = (if c.gone then 1 else 0) :: UInt8.ofNat (c.key.length / 256) :: UInt8.ofNat c.key.length :: UInt8.ofNat (c.says.length / 256) :: UInt8.ofNat c.says.length :: (c.key ++ (c.says ++ r)) := by
    unfold printC two8
    simp
  rw [hs]
  unfold headL
  simp only [hk, hv]
  have hlen : ¬ (c.key ++ (c.says ++ r)).length < c.key.length + c.says.length := by simp
  have hg : ¬ 1 < (if c.gone = true then (1 : UInt8) else 0).toNat := by split <;> decide
  have hz : ¬ ((if c.gone = true then (1 : UInt8) else 0) = 1 ∧ 0 < c.says.length) := by
    rintro ⟨h1, h2⟩
    by_cases hc : c.gone = true
    · unfold Ch.says at h2
      rw [if_pos hc] at h2
      cases h2
    · rw [if_neg hc] at h1
      cases h1
  have hn : ¬ (1 < (if c.gone = true then (1 : UInt8) else 0).toNat ∨ (c.key ++ (c.says ++ r)).length < c.key.length + c.says.length ∨ ((if c.gone = true then (1 : UInt8) else 0) = 1 ∧ 0 < c.says.length)) := by
    rintro (h1 | h1 | h1)
    · exact hg h1
    · exact hlen h1
    · exact hz h1
  rw [if_neg hn, List.take_left' rfl, List.drop_left' rfl, List.take_left' rfl, ← List.append_assoc, List.drop_left' (by rw [List.length_append])]
  have hgg : ((if c.gone = true then (1 : UInt8) else 0) == 1) = c.gone := by cases c.gone <;> rfl
  rw [hgg]
  rfl
theorem parse_print : ∀ (l : List Ch), (∀ c ∈ l, c.fits) → ∀ f, (printL l).length ≤ f → parseL f (printL l) = some (l.map Ch.norm)
  | [], _, f, _ => by
    rw [parseL.eq_def]
    rfl
  | c :: l, hf, f, hl => by
    have hp : printL (c :: l) = printC c ++ printL l := List.flatMap_cons ..
    have hc := hf c (List.mem_cons_self ..)
    rw [hp] at hl ⊢
    have hlen := printC_len c
    rw [List.length_append] at hl
    obtain ⟨f', rfl⟩ : ∃ f', f = f' + 1 := ⟨f - 1, by omega⟩
    have hh := head_print hc (printL l)
    have ih := parse_print l (fun x hx => hf x (List.mem_cons_of_mem _ hx)) f' (by omega)
    cases hs : printC c ++ printL l with
    | nil =>
      have := congrArg List.length hs
      rw [List.length_append, List.length_nil] at this
      omega
    | cons b s =>
      rw [hs] at hh
      rw [parseL, hh]
      show (parseL f' (printL l)).map _ = _
      rw [ih]
      rfl
end Go.Proofs.YtgpdplffljidbaaGreatDoor
namespace Go.Proofs.YtgpdplffljidbaaGreatDoor

def behindP (ps : List PairP) (l : List Ch) : List PairP := l.foldl (fun ps c => doneP c (!c.gone) ps) ps
def wholeP (ps : List PairP) : List Ch := ps.map fun p => ⟨p.1, p.2, false⟩
theorem behind_nil (ps : List PairP) : behindP ps [] = ps := rfl
theorem behind_cons (ps : List PairP) (c : Ch) (l : List Ch) : behindP ps (c :: l) = behindP (doneP c (!c.gone) ps) l := rfl
theorem behind_append (ps : List PairP) (l m : List Ch) : behindP ps (l ++ m) = behindP (behindP ps l) m := List.foldl_append ..
theorem behind_sorted : ∀ (l : List Ch) {ps : List PairP}, SortedP ps → SortedP (behindP ps l)
  | [], _, h => h
  | c :: l, ps, h => by
    rw [behind_cons]
    exact behind_sorted l (done_sorted c _ ps h)
theorem done_norm (c : Ch) (ps : List PairP) : doneP c.norm (!c.norm.gone) ps = doneP c (!c.gone) ps := by
  have hg : c.norm.gone = c.gone := rfl
  rw [hg]
  cases h : c.gone
  · have e : c.norm = c := by
      unfold Ch.norm Ch.says
      rw [h]
      cases c
      cases h
      rfl
    rw [e]
  · show doneP c.norm false ps = doneP c false ps
    rw [done_off, done_off]
    rfl
theorem behind_norm : ∀ (l : List Ch) (ps : List PairP), behindP ps (l.map Ch.norm) = behindP ps l
  | [], _ => rfl
  | c :: l, ps => by
    rw [List.map_cons, behind_cons, behind_cons, done_norm]
    exact behind_norm l _
theorem find_done (c : Ch) {ps : List PairP} (h : SortedP ps) (k : KeyP) : findP (doneP c (!c.gone) ps) k = if k = c.key then (if c.gone then none else some c.val) else findP ps k := by
  by_cases hk : k = c.key
  · subst hk
    rw [if_pos rfl]
    cases hg : c.gone
    · exact find_done_self c ps h
    · exact find_done_gone c ps
  · rw [if_neg hk]
    exact find_done_other c hk _ ps
theorem done_last (c : Ch) : ∀ ps : List PairP, (∀ p ∈ ps, lessP p.1 c.key = true) → doneP c true ps = ps ++ [(c.key, c.val)]
  | [], _ => rfl
  | p :: ps, h => by
    have h1 := h p (List.mem_cons_self ..)
    have hl : lessP c.key p.1 = false := by
      cases hx : lessP c.key p.1
      · rfl
      · have := less_trans h1 hx
        rw [less_irrefl] at this
        cases this
    have hne : c.key ≠ p.1 := fun e => by
      rw [e, less_irrefl] at h1
      cases h1
    have hb : (c.key == p.1) = false := by simp [hne]
    unfold doneP
    rw [hl, hb, if_neg (by decide), if_neg (fun e => hne e.symm)]
    show [p] ++ doneP c true ps = _
    rw [done_last c ps fun q hq => h q (List.mem_cons_of_mem _ hq)]
    rfl
theorem behind_whole_from : ∀ (ps acc : List PairP), SortedP (acc ++ ps) → behindP acc (wholeP ps) = acc ++ ps
  | [], acc, _ => (List.append_nil acc).symm
  | p :: ps, acc, h => by
    show behindP (doneP ⟨p.1, p.2, false⟩ true acc) (wholeP ps) = _
    have hl : ∀ q ∈ acc, lessP q.1 p.1 = true := fun q hq => (List.pairwise_append.1 h).2.2 q hq p (List.mem_cons_self ..)
    rw [done_last ⟨p.1, p.2, false⟩ acc hl]
    have e : acc ++ [(p.1, p.2)] ++ ps = acc ++ p :: ps := by simp
    rw [← e]
    exact behind_whole_from ps (acc ++ [(p.1, p.2)]) (by rw [e]; exact h)
theorem behind_whole {ps : List PairP} (h : SortedP ps) : behindP [] (wholeP ps) = ps := behind_whole_from ps [] h

def sizeP (ps : List PairP) : Nat := (ps.map fun p => 5 + p.1.length + p.2.length).sum
theorem size_cons (p : PairP) (ps : List PairP) : sizeP (p :: ps) = 5 + p.1.length + p.2.length + sizeP ps := rfl
theorem whole_len : ∀ ps : List PairP, (printL (wholeP ps)).length = sizeP ps
  | [] => rfl
  | p :: ps => by
    show (printC ⟨p.1, p.2, false⟩ ++ printL (wholeP ps)).length = _
    rw [List.length_append, printC_len, whole_len ps, size_cons]
    rfl
theorem size_done (c : Ch) : ∀ (t : Bool) (ps : List PairP), sizeP (doneP c t ps) ≤ sizeP ps + if t = true then 5 + c.key.length + c.val.length else 0
  | t, [] => by
    unfold doneP
    cases t
    · exact Nat.zero_le _
    · rw [if_pos rfl, if_pos rfl, size_cons]
      exact Nat.le_of_eq (Nat.add_comm ..)
  | t, p :: ps => by
    have ih := size_done c (t && !(lessP c.key p.1 || c.key == p.1)) ps
    unfold doneP
    obtain ⟨r, hr⟩ : ∃ r, doneP c (t && !(lessP c.key p.1 || c.key == p.1)) ps = r := ⟨_, rfl⟩
    rw [hr] at ih ⊢
    have hmid : sizeP ((if p.1 = c.key then [] else [p]) ++ r) ≤ 5 + p.1.length + p.2.length + sizeP r := by
      split
      · exact Nat.le_add_left ..
      · exact Nat.le_refl _
    rw [size_cons]
    have hff : ¬ (false = true) := Bool.false_ne_true
    cases t
    · simp only [Bool.false_and, if_neg hff, List.nil_append, Nat.add_zero] at ih ⊢
      omega
    · simp only [Bool.true_and, if_true] at ih ⊢
      cases hx : (lessP c.key p.1 || c.key == p.1)
      · rw [hx] at ih
        simp only [Bool.not_false, if_true] at ih
        rw [if_neg hff, List.nil_append]
        omega
      · rw [hx] at ih
        simp only [Bool.not_true, if_neg hff] at ih
        rw [if_pos rfl, List.singleton_append, size_cons]
        show 5 + c.key.length + c.val.length + _ ≤ _
        omega
theorem size_behind : ∀ (l : List Ch) (ps : List PairP), sizeP (behindP ps l) ≤ sizeP ps + (printL l).length
  | [], ps => Nat.le_add_right ..
  | c :: l, ps => by
    have h := size_done c (!c.gone) ps
    have ih := size_behind l (doneP c (!c.gone) ps)
    have hp : (printL (c :: l)).length = (printC c).length + (printL l).length := by
      rw [show printL (c :: l) = printC c ++ printL l from List.flatMap_cons .., List.length_append]
    rw [behind_cons, hp, printC_len]
    unfold Ch.says
    cases hg : c.gone
    · rw [hg] at h ih
      rw [if_neg (by decide)]
      rw [if_pos (by decide)] at h
      omega
    · rw [hg] at h ih
      rw [if_neg (by decide)] at h
      omega
theorem room_behind (l : List Ch) (ps : List PairP) : secN (sizeP (behindP ps l)) ≤ secN (sizeP ps) + secN (printL l).length :=
  Nat.le_trans (secN_mono (size_behind l ps)) (secN_add _ _)

def FitP (ps : List PairP) : Prop := ∀ p ∈ ps, p.1.length ≤ 65535 ∧ p.2.length ≤ 65535
theorem fit_whole {ps : List PairP} (h : FitP ps) : ∀ c ∈ wholeP ps, c.fits := fun c hc => by
  obtain ⟨p, hp, rfl⟩ := List.mem_map.1 hc
  exact h p hp
theorem fit_behind : ∀ (l : List Ch) {ps : List PairP}, FitP ps → (∀ c ∈ l, c.fits) → FitP (behindP ps l)
  | [], _, h, _ => h
  | c :: l, ps, h, hl => by
    rw [behind_cons]
    refine fit_behind l (fun p hp => ?_) fun x hx => hl x (List.mem_cons_of_mem _ hx)
    rcases done_mem c _ ps p hp with ⟨rfl, _⟩ | ⟨h1, _⟩
    · exact hl c (List.mem_cons_self ..)
    · exact h p h1
def toldP (ts : List (List UInt8)) : Option (List PairP) := ts.foldl (fun a t => a.bind fun ps => (parseL t.length t).map (behindP ps)) (some [])
theorem told_more {ts : List (List UInt8)} {ps : List PairP} (h : toldP ts = some ps) {l : List Ch} (hl : ∀ c ∈ l, c.fits) : toldP (ts ++ [printL l]) = some (behindP ps l) := by
  unfold toldP at h ⊢
  rw [List.foldl_append, h]
  show (parseL (printL l).length (printL l)).map (behindP ps) = _
  rw [parse_print l hl _ (Nat.le_refl _)]
  exact congrArg some (behind_norm l ps)
theorem told_whole {ps : List PairP} (h : SortedP ps) (hf : FitP ps) : toldP [printL (wholeP ps)] = some ps := by
  have := told_more (ts := []) (ps := []) rfl (fit_whole hf)
  rw [behind_whole h] at this
  exact this
end Go.Proofs.YtgpdplffljidbaaGreatDoor
namespace Go.Proofs.YtgpdplffljidbaaGreatDoor

structure ItemS where
  id : Int
  fr : List UInt8
  to : List UInt8
  tx : List UInt8
  b : Int
  t : Int
  d : Int
deriving DecidableEq
def rightS (x : ItemS) : Bool := decide (x.fr.length ≤ 255) && (decide (x.to.length ≤ 255) && (decide (x.tx.length ≤ 16384) && rightT x.b x.t x.d))
def beS : Nat → Nat → List UInt8
  | 0, _ => []
  | k + 1, n => UInt8.ofNat (n / 256 ^ k) :: beS k n
theorem be_lenS : ∀ k n, (beS k n).length = k
  | 0, _ => rfl
  | k + 1, n => by
    unfold beS
    rw [List.length_cons, be_lenS k n]
def numS (l : List UInt8) : Nat := l.foldl (fun n c => n * 256 + c.toNat) 0
theorem num_foldS : ∀ (l : List UInt8) (a : Nat), l.foldl (fun n c => n * 256 + c.toNat) a = a * 256 ^ l.length + numS l
  | [], a => by simp [numS]
  | c :: l, a => by
    have h1 := num_foldS l (a * 256 + c.toNat)
    have h2 := num_foldS l (0 * 256 + c.toNat)
    unfold numS
    rw [List.foldl_cons, List.foldl_cons, h1, h2, List.length_cons, Nat.pow_succ, Nat.add_mul, Nat.mul_assoc, Nat.mul_comm 256, Nat.zero_mul, Nat.zero_add]
    omega
theorem num_consS (c : UInt8) (l : List UInt8) : numS (c :: l) = c.toNat * 256 ^ l.length + numS l := by
  have := num_foldS l (0 * 256 + c.toNat)
  unfold numS
  rw [List.foldl_cons, this, Nat.zero_mul, Nat.zero_add]
  rfl
theorem num_beS : ∀ k n, numS (beS k n) = n % 256 ^ k
  | 0, n => by
    show (0 : Nat) = n % 1
    omega
  | k + 1, n => by
    unfold beS
    rw [num_consS, be_lenS, num_beS k n, UInt8.toNat_ofNat']
    rw [show (2 : Nat) ^ 8 = 256 from rfl, Nat.pow_succ, Nat.mod_mul, Nat.mul_comm (256 ^ k)]
    omega
theorem num_backS {k n : Nat} (h : n < 256 ^ k) : numS (beS k n) = n := by rw [num_beS, Nat.mod_eq_of_lt h]
def partS (s : List UInt8) : List UInt8 := beS 2 s.length ++ s
def turnS (x : ItemS) : List UInt8 := beS 8 x.b.toNat ++ (beS 8 x.t.toNat ++ beS 8 x.d.toNat)
def textS (x : ItemS) : List UInt8 := partS x.fr ++ (partS x.to ++ (partS x.tx ++ turnS x))
theorem text_lenS (x : ItemS) : (textS x).length = 30 + x.fr.length + x.to.length + x.tx.length := by
  unfold textS partS turnS
  simp only [List.length_append, be_lenS]
  omega
end Go.Proofs.YtgpdplffljidbaaGreatDoor
