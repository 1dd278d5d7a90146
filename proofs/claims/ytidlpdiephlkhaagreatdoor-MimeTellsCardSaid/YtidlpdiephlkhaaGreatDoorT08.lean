/-
  Texts of this proof, put together: C12P, H10Q, M13P.
-/
import Derived.Test.YtidlpdiephlkhaaGreatDoorT07
import Derived.Lib.Case
import Derived.Test.YtidlpdiephlkhaaGreatDoorT01
import Derived.Test.YtidlpdiephlkhaaGreatDoorT05
namespace Go.Proofs.YtidlpdiephlkhaaGreatDoor

abbrev ParC := TextA × TextA
abbrev TypeC := TextA × TextA × List ParC
def marksC : TextA := [33, 35, 36, 38, 45, 94, 95, 46, 43]
def tokC (c : UInt8) : Bool := lowA c || marksC.contains c
def gapC (c : UInt8) : Bool := c == 32 || c == 9
def inNameC (c : UInt8) : Bool := decide (65 ≤ c.toNat ∧ c.toNat ≤ 90) || tokC c
def tokT (s : TextA) : Bool := decide (1 ≤ s.length) && (decide (s.length ≤ 64) && s.all tokC)
def valT (s : TextA) : Bool := decide (s.length ≤ 70) && s.all nameCA
def hasC (l : List ParC) (n : TextA) : Bool := l.any fun p => p.1 == n
def parsC : List ParC → Bool
  | [] => true
  | p :: l => tokT p.1 && (valT p.2 && (!(hasC l p.1) && parsC l))
def rightC (t : TypeC) : Bool := tokT t.1 && (tokT t.2.1 && (decide (t.2.2.length ≤ 8) && parsC t.2.2))
def findC (l : List ParC) (n : TextA) : Option ParC := l.find? fun p => p.1 == n

/-- What a text tells. -/
def wordC (s : TextA) : TextA := (s.takeWhile inNameC).map Lib.lowerB
def valueC (s : TextA) : Option (TextA × TextA) := match cutA 34 s with
  | some r => hearA false [] r
  | none => if tokT (s.takeWhile tokC) = true then some (s.takeWhile tokC, s.dropWhile tokC) else none
def paramC (s : TextA) : Option (ParC × TextA) := match cutA 61 (s.dropWhile inNameC) with
  | none => none
  | some r => match valueC r with
    | none => none
    | some (v, u) => some ((wordC s, v), u)
def moreC : Nat → List ParC → TextA → Option (List ParC)
  | 0, _, _ => none
  | n + 1, l, s => match cutA 59 s with
    | none => if s = [] then some l else none
    | some r => match paramC (r.dropWhile gapC) with
      | none => none
      | some (p, u) => if l.length = 8 then none else moreC n (l ++ [p]) (u.dropWhile gapC)
def readC (s : TextA) : Option TypeC := match cutA 47 ((s.dropWhile gapC).dropWhile inNameC) with
  | none => none
  | some r => match moreC (s.length + 1) [] ((r.dropWhile inNameC).dropWhile gapC) with
    | none => none
    | some l => some (wordC (s.dropWhile gapC), wordC r, l)
def parseC (s : TextA) : Option TypeC := match readC s with
  | none => none
  | some t => if rightC t = true then some t else none

/-- Read as the document's answer does: as many as there are. -/
def moreQ : Nat → List ParC → TextA → Option (List ParC)
  | 0, _, _ => none
  | n + 1, l, s => match cutA 59 s with
    | none => if s = [] then some l else none
    | some r => match paramC (r.dropWhile gapC) with
      | none => none
      | some (p, u) => moreQ n (l ++ [p]) (u.dropWhile gapC)
def readT12 (s : TextA) : Option TypeC := match cutA 47 ((s.dropWhile gapC).dropWhile inNameC) with
  | none => none
  | some r => match moreQ (s.length + 1) [] ((r.dropWhile inNameC).dropWhile gapC) with
    | none => none
    | some l => some (wordC (s.dropWhile gapC), wordC r, l)
theorem moreq_long : ∀ (n : Nat) (l : List ParC) (s : TextA) (x : List ParC), moreQ n l s = some x → l.length ≤ x.length
  | 0, _, _, _, h => by cases h
  | n + 1, l, s, x, h => by
    unfold moreQ at h
    split at h
    · split at h
      · cases h
        exact Nat.le_refl _
      · cases h
    · split at h
      · cases h
      · have := moreq_long n _ _ _ h
        rw [List.length_append] at this
        exact Nat.le_trans (Nat.le_add_right _ _) this
theorem more_some : ∀ (n : Nat) (l : List ParC) (s : TextA) (x : List ParC), moreC n l s = some x → moreQ n l s = some x
  | 0, _, _, _, h => by cases h
  | n + 1, l, s, x, h => by
    unfold moreC at h
    unfold moreQ
    split at h
    · exact h
    · split at h
      · cases h
      · split at h
        · cases h
        · exact more_some n _ _ _ h
theorem more_few : ∀ (n : Nat) (l : List ParC) (s : TextA) (x : List ParC), moreQ n l s = some x → x.length ≤ 8 → moreC n l s = some x
  | 0, _, _, _, h, _ => by cases h
  | n + 1, l, s, x, h, hx => by
    unfold moreQ at h
    unfold moreC
    split at h
    · exact h
    · split at h
      · cases h
      · have h3 := moreq_long n _ _ _ h
        rw [List.length_append, List.length_singleton] at h3
        rw [if_neg (by omega)]
        exact more_few n _ _ _ h hx
theorem parse_sameC (s : TextA) : (match readT12 s with
    | none => none
    | some t => if rightC t = true then some t else none) = parseC s := by
  unfold parseC readT12 readC
  cases h1 : cutA 47 ((s.dropWhile gapC).dropWhile inNameC) with
  | none => rfl
  | some r =>
    simp only
    cases h2 : moreQ (s.length + 1) [] ((r.dropWhile inNameC).dropWhile gapC) with
    | none =>
      cases h3 : moreC (s.length + 1) [] ((r.dropWhile inNameC).dropWhile gapC) with
      | none => rfl
      | some x =>
        rw [more_some _ _ _ _ h3] at h2
        cases h2
    | some x =>
      by_cases hx : x.length ≤ 8
      · rw [more_few _ _ _ _ h2 hx]
      · simp only
        rw [if_neg (by
          intro h
          unfold rightC at h
          simp only [Bool.and_eq_true, decide_eq_true_eq] at h
          exact hx h.2.2.1)]
        cases h3 : moreC (s.length + 1) [] ((r.dropWhile inNameC).dropWhile gapC) with
        | none => rfl
        | some y =>
          rw [more_some _ _ _ _ h3] at h2
          cases h2
          simp only
          rw [if_neg (by
            intro h
            unfold rightC at h
            simp only [Bool.and_eq_true, decide_eq_true_eq] at h
            exact hx h.2.2.1)]
theorem parse_right {s : TextA} {t : TypeC} (h : parseC s = some t) : rightC t = true := by
  unfold parseC at h
  split at h
  · cases h
  · split at h
    · rename_i h1
      cases h
      exact h1
    · cases h

/-- A parameter as it may be told: what stands ahead of its semicolon, behind it, its name, its value, what stands behind that. -/
structure FormC where
  a : TextA
  b : TextA
  n : TextA
  v : TextA
  z : TextA
def FormC.text (f : FormC) : TextA := f.a ++ (59 :: (f.b ++ (f.n ++ (61 :: (f.v ++ f.z)))))
theorem tok_all {s : TextA} (h : tokT s = true) : s.all tokC = true ∧ 1 ≤ s.length ∧ s.length ≤ 64 := by
  unfold tokT at h
  simp only [Bool.and_eq_true, decide_eq_true_eq] at h
  exact ⟨h.2.2, h.1, h.2.1⟩
theorem pars_tok : ∀ {l : List ParC}, parsC l = true → ∀ p ∈ l, tokT p.1 = true ∧ valT p.2 = true
  | p :: l, h, q, hq => by
    unfold parsC at h
    simp only [Bool.and_eq_true] at h
    rcases List.mem_cons.1 hq with rfl | hq
    · exact ⟨h.1, h.2.1⟩
    · exact pars_tok h.2.2.2 q hq
/-- Right parameters: one by one. -/
theorem has_iff (l : List ParC) (n : TextA) : hasC l n = true ↔ ∃ p ∈ l, p.1 = n := by
  unfold hasC
  simp
theorem pars_snoc : ∀ (l : List ParC) (p : ParC), parsC (l ++ [p]) = (parsC l && (tokT p.1 && (valT p.2 && !(hasC l p.1))))
  | [], p => by
    show (tokT p.1 && (valT p.2 && (!false && true))) = (true && (tokT p.1 && (valT p.2 && !false)))
    simp
  | q :: l, p => by
    have e1 : hasC (l ++ [p]) q.1 = (hasC l q.1 || (p.1 == q.1)) := by
      unfold hasC
      simp
    have e2 : hasC (q :: l) p.1 = ((q.1 == p.1) || hasC l p.1) := rfl
    have e3 : (p.1 == q.1) = (q.1 == p.1) := by
      by_cases h : p.1 = q.1
      · rw [h]
      · rw [beq_eq_false_iff_ne.2 h, beq_eq_false_iff_ne.2 (fun e => h e.symm)]
    show (tokT q.1 && (valT q.2 && (!(hasC (l ++ [p]) q.1) && parsC (l ++ [p])))) = ((tokT q.1 && (valT q.2 && (!(hasC l q.1) && parsC l))) && (tokT p.1 && (valT p.2 && !(hasC (q :: l) p.1))))
    rw [pars_snoc l p, e1, e2, e3]
    generalize tokT q.1 = b1, valT q.2 = b2, hasC l q.1 = b3, (q.1 == p.1) = b4, parsC l = b5, tokT p.1 = b6, valT p.2 = b7, hasC l p.1 = b8
    revert b1 b2 b3 b4 b5 b6 b7 b8
    decide
/-- Sizes. -/
theorem tokt_len {s : TextA} (h : tokT s = true) : s.length ≤ 64 := (tok_all h).2.2
theorem valt_len {s : TextA} (h : valT s = true) : s.length ≤ 70 := by
  unfold valT at h
  simp only [Bool.and_eq_true, decide_eq_true_eq] at h
  exact h.1
theorem right_parts {t : TypeC} (h : rightC t = true) : t.1.length ≤ 64 ∧ t.2.1.length ≤ 64 ∧ t.2.2.length ≤ 8 ∧ ∀ p ∈ t.2.2, p.1.length ≤ 64 ∧ p.2.length ≤ 70 := by
  unfold rightC at h
  simp only [Bool.and_eq_true, decide_eq_true_eq] at h
  exact ⟨tokt_len h.1, tokt_len h.2.1, h.2.2.1, fun p hp => ⟨tokt_len (pars_tok h.2.2.2 p hp).1, valt_len (pars_tok h.2.2.2 p hp).2⟩⟩
end Go.Proofs.YtidlpdiephlkhaaGreatDoor
namespace Go.Proofs.YtidlpdiephlkhaaGreatDoor

def rightB (f : FieldH) : Bool :=
  decide (1 ≤ f.1.length ∧ f.1.length ≤ 64) && (f.1.all (fun c => decide (33 ≤ c.toNat ∧ c.toNat ≤ 126 ∧ c ≠ 58)) && (f.2.all (fun c => decide (c ≠ 0 ∧ c ≠ 10 ∧ c ≠ 13)) && (!(goesH f.2) && !(goesH f.2.reverse))))
/-- Is a line longer than a line may be? -/
def longH (ls : List TextH) : Bool := ls.any fun l => decide (998 < l.length)
/-- The fields of lines, if all of them are right. -/
def fieldsH : List TextH → Option (List FieldH)
  | [] => some []
  | w :: ws => match fieldH w with
    | none => none
    | some f => if rightB f = true then (fieldsH ws).map (f :: ·) else none
def parseH (s : TextH) : (List FieldH × TextH) × Int :=
  match topH (s.length + 1) s with
  | none => (([], []), 2)
  | some (ls, rest) =>
    if longH ls = true then (([], []), 3) else if goesH (ls.headD []) = true then (([], []), 2)
    else match fieldsH (joinH ls) with
      | none => (([], []), 2)
      | some l => if 64 < l.length then (([], []), 3) else ((l, rest), 0)
theorem end_len : ∀ ls : List TextH, 2 * ls.length ≤ (endH ls).length
  | [] => Nat.le_refl _
  | l :: ls => by
    have := end_len ls
    unfold endH at this ⊢
    rw [List.flatMap_cons, List.length_append, List.length_append, List.length_cons]
    show _ ≤ l.length + 2 + _
    omega
/-- Letters' case plays no part. -/
def lowH (c : UInt8) : UInt8 := if 65 ≤ c.toNat ∧ c.toNat ≤ 90 then c + 32 else c
def sameH (a b : TextH) : Bool := decide (a.map lowH = b.map lowH)
def getH (l : List FieldH) (name : TextH) : Option TextH := (l.find? fun f => sameH f.1 name).map (·.2)
end Go.Proofs.YtidlpdiephlkhaaGreatDoor
namespace Go.Proofs.YtidlpdiephlkhaaGreatDoor

/-- A part: its fields, its type, its body, its parts. -/
inductive TreeM where
  | mk (fields : List FieldH) (typ : TypeC) (body : TextH) (parts : List TreeM)
def TreeM.fields : TreeM → List FieldH
  | .mk f _ _ _ => f
def TreeM.typ : TreeM → TypeC
  | .mk _ t _ _ => t
def TreeM.body : TreeM → TextH
  | .mk _ _ b _ => b
def TreeM.parts : TreeM → List TreeM
  | .mk _ _ _ l => l
def nilM : TreeM := .mk [] ([], [], []) [] []
mutual
def countM : TreeM → Nat
  | .mk _ _ _ l => 1 + countsM l
def countsM : List TreeM → Nat
  | [] => 0
  | p :: l => countM p + countsM l
end
/-- The text ahead of the next line that begins so (without that line's end ahead), and what stands behind its beginning. -/
def nextM (mk : TextH) : TextH → Option (TextH × TextH)
  | [] => none
  | c :: r => if (13 :: 10 :: mk).isPrefixOf (c :: r) = true then some ([], (c :: r).drop (mk.length + 2)) else (nextM mk r).map fun x => (c :: x.1, x.2)
/-- What stands between the divisions, behind one of them. -/
def divN : Nat → TextH → TextH → Option (List TextH)
  | 0, _, _ => none
  | f + 1, mk, s => match nextM mk s with
    | none => if s = [45, 45, 13, 10] then some [] else none
    | some (13 :: 10 :: u, r) => (divN f mk r).map (u :: ·)
    | some _ => none
def divM (mk raw : TextH) : Option (List TextH) :=
  if mk.isPrefixOf raw = true then (match nextM mk (raw.drop mk.length) with
    | none => none
    | some _ => divN (raw.length + 1) mk (raw.drop mk.length)) else none
def ctM : TextH := [67, 111, 110, 116, 101, 110, 116, 45, 84, 121, 112, 101]
def cteM : TextH := [67, 111, 110, 116, 101, 110, 116, 45, 84, 114, 97, 110, 115, 102, 101, 114, 45, 69, 110, 99, 111, 100, 105, 110, 103]
def bit7M : TextH := [55, 98, 105, 116]
def bit8M : TextH := [56, 98, 105, 116]
def base64M : TextH := [98, 97, 115, 101, 54, 52]
def quotedM : TextH := [113, 117, 111, 116, 101, 100, 45, 112, 114, 105, 110, 116, 97, 98, 108, 101]
def textM : TextH := [116, 101, 120, 116]
def plainM : TextH := [112, 108, 97, 105, 110]
def multiM : TextH := [109, 117, 108, 116, 105, 112, 97, 114, 116]
def boundM : TextH := [98, 111, 117, 110, 100, 97, 114, 121]
/-- The coding: 0 as it is, 1 base64, 2 quoted-printable, 3 none of these. -/
def codM (l : List FieldH) : Nat := match getH l cteM with
  | none => 0
  | some c => if sameH c bit7M = true ∨ sameH c bit8M = true then 0 else if sameH c base64M = true then 1 else if sameH c quotedM = true then 2 else 3
def typM (l : List FieldH) : Option TypeC := match getH l ctM with
  | none => some (textM, plainM, [])
  | some t => parseC t
def leafM (c : Nat) (raw : TextH) : Option TextH := if c = 0 then some raw else if c = 1 then unfoldB raw else if c = 2 then decQ raw else none
/-- The boundary: none is the empty one. -/
def borderM (t : TypeC) : TextH := match findC t.2.2 boundM with
  | none => []
  | some p => p.2
/-- Texts one by one: what they tell, how many parts there are then, the first error. -/
def allM (f : TextH → Nat → TreeM × Nat × Int) : List TextH → Nat → List TreeM × Nat × Int
  | [], n => ([], n, 0)
  | t :: ts, n => if (f t n).2.2 = 0 then ((f t n).1 :: (allM f ts (f t n).2.1).1, (allM f ts (f t n).2.1).2) else ([], (f t n).2)
def stepM (sub : Option (TextH → Nat → TreeM × Nat × Int)) (s : TextH) (n : Nat) : TreeM × Nat × Int :=
  if 16 ≤ n then (nilM, n, 3) else
  if (parseH s).2 ≠ 0 then (nilM, n + 1, (parseH s).2) else
  match typM (parseH s).1.1 with
  | none => (nilM, n + 1, 2)
  | some t =>
    if t.1 ≠ multiM then (match leafM (codM (parseH s).1.1) (parseH s).1.2 with
      | none => (nilM, n + 1, 2)
      | some b => (.mk (parseH s).1.1 t b [], n + 1, 0))
    else if borderM t = [] ∨ codM (parseH s).1.1 ≠ 0 then (nilM, n + 1, 2)
    else match divM (45 :: 45 :: borderM t) (parseH s).1.2 with
      | none => (nilM, n + 1, 2)
      | some l => match sub with
        | none => (nilM, n + 1, 10)
        | some f => if (allM f l (n + 1)).2.2 = 0 then (.mk (parseH s).1.1 t [] (allM f l (n + 1)).1, (allM f l (n + 1)).2.1, 0) else (nilM, (allM f l (n + 1)).2)
/-- A part, where so many multiparts may still stand within one another. -/
def partM : Nat → TextH → Nat → TreeM × Nat × Int
  | 0 => stepM none
  | d + 1 => stepM (some (partM d))
def parseM (s : TextH) : TreeM × Int := if 16384 < s.length then (nilM, 3) else ((partM 4 s 0).1, (partM 4 s 0).2.2)

theorem next_some {mk : TextH} : ∀ {s t r : TextH}, nextM mk s = some (t, r) → s = t ++ 13 :: 10 :: (mk ++ r)
  | [], t, r, h => by cases h
  | c :: s, t, r, h => by
    unfold nextM at h
    split at h
    · rename_i hp
      obtain ⟨rfl, rfl⟩ := Prod.mk.inj (Option.some.inj h)
      obtain ⟨u, hu⟩ := List.isPrefixOf_iff_prefix.1 hp
      rw [← hu]
      simp
    · cases hn : nextM mk s with
      | none =>
        rw [hn] at h
        cases h
      | some x =>
        rw [hn] at h
        obtain ⟨rfl, rfl⟩ := Prod.mk.inj (Option.some.inj h)
        rw [next_some (t := x.1) (r := x.2) hn, List.cons_append]
/-- Texts with a mark ahead of each, and the last mark. -/
def divTextM (mk : TextH) : List TextH → TextH
  | [] => mk ++ [45, 45, 13, 10]
  | t :: l => mk ++ 13 :: 10 :: (t ++ 13 :: 10 :: divTextM mk l)
theorem divtext_mk (mk : TextH) : ∀ l : List TextH, ∃ r, divTextM mk l = mk ++ r
  | [] => ⟨_, rfl⟩
  | _ :: _ => ⟨_, rfl⟩
theorem next_none {mk : TextH} : ∀ {s : TextH}, (∀ u v, s ≠ u ++ 13 :: 10 :: (mk ++ v)) → nextM mk s = none
  | [], _ => rfl
  | c :: s, h => by
    unfold nextM
    rw [if_neg, next_none (s := s) (fun u v e => h (c :: u) v (by rw [e]; rfl))]
    · rfl
    · intro hp
      obtain ⟨v, hv⟩ := List.isPrefixOf_iff_prefix.1 hp
      exact h [] v (by rw [← hv]; rfl)
end Go.Proofs.YtidlpdiephlkhaaGreatDoor
