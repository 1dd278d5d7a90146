/-
  Addresses as texts: what is right, how they are printed, what a text tells. Plain facts: no program.
-/
import Derived.Test.YtafpifpgfpkckaaDoorW5F
import Derived.Lib.TrimByte
import Derived.Lib.Join
namespace Go.Proofs.YtafpifpgfpkckaaDoor

abbrev TextA := List UInt8
abbrev AddrA := TextA × TextA × TextA
def lowA (c : UInt8) : Bool := decide (97 ≤ c.toNat ∧ c.toNat ≤ 122) || decide (48 ≤ c.toNat ∧ c.toNat ≤ 57)
def marksA : TextA := [33, 35, 36, 37, 38, 39, 42, 43, 45, 47, 61, 63, 94, 95, 123, 124, 125, 126, 96]
def atomC (c : UInt8) : Bool := decide (65 ≤ c.toNat ∧ c.toNat ≤ 90) || (lowA c || marksA.contains c)
def domC (c : UInt8) : Bool := c == 45 || lowA c
def nameCA (c : UInt8) : Bool := decide (32 ≤ c.toNat ∧ c.toNat ≤ 126)
def orDotA (p : UInt8 → Bool) (c : UInt8) : Bool := c == 46 || p c
def pieceA (p : UInt8 → Bool) (x : TextA) : Bool := !(x.isEmpty) && x.all p
def joinedA (b : UInt8) (p : UInt8 → Bool) (s : TextA) : Bool := (splitB b s).all (pieceA p)
def dottedA (p : UInt8 → Bool) (s : TextA) : Bool := decide (s.length ≤ 64) && joinedA 46 p s
def nameA (s : TextA) : Bool := decide (s.length ≤ 64) && ((Lib.trimB s 32 == s) && s.all nameCA)
def rightA (a : AddrA) : Bool := nameA a.1 && (dottedA atomC a.2.1 && dottedA domC a.2.2)

/-- Gone through byte by byte: pieces of such bytes, none empty, with one byte between each two. -/
def okD (b : UInt8) (p : UInt8 → Bool) : Bool → TextA → Bool
  | fresh, [] => !fresh
  | fresh, c :: r => if c = b then !fresh && okD b p true r else p c && okD b p false r
theorem joined_ok (b : UInt8) (p : UInt8 → Bool) : ∀ s : TextA, joinedA b p s = okD b p true s ∧ ((((splitB b s).headD []).all p && (splitB b s).tail.all (pieceA p)) = okD b p false s)
  | [] => ⟨rfl, rfl⟩
  | c :: r => by
    obtain ⟨h1, h2⟩ := joined_ok b p r
    unfold joinedA at h1 ⊢
    unfold okD splitB
    by_cases hc : c = b
    · rw [if_pos hc, if_pos hc, if_pos hc]
      constructor
      · rfl
      · show (([] : TextA).all p && (splitB b r).all (pieceA p)) = (!false && okD b p true r)
        rw [h1]
        rfl
    · rw [if_neg hc, if_neg hc, if_neg hc, ← h2]
      constructor
      · show (pieceA p (c :: (splitB b r).headD []) && (splitB b r).tail.all (pieceA p)) = _
        unfold pieceA
        simp [Bool.and_assoc]
      · show ((c :: (splitB b r).headD []).all p && (splitB b r).tail.all (pieceA p)) = _
        rw [List.all_cons, Bool.and_assoc]
theorem joined_eq (b : UInt8) (p : UInt8 → Bool) (s : TextA) : joinedA b p s = okD b p true s := (joined_ok b p s).1

/-- How an address is told. -/
def bareA (a : AddrA) : TextA := a.2.1 ++ 64 :: a.2.2
def tellA (c : UInt8) : TextA := if c = 34 ∨ c = 92 then [92, c] else [c]
def quoteA (n : TextA) : TextA := 34 :: (n.flatMap tellA ++ [34])
def nameTextA (n : TextA) : TextA := if joinedA 32 atomC n = true then n else quoteA n
def addrTextA (a : AddrA) : TextA := if a.1 = [] then bareA a else nameTextA a.1 ++ ([32, 60] ++ bareA a ++ [62])
def moreTextA (l : List AddrA) : TextA := l.flatMap fun a => [44, 32] ++ addrTextA a
def listTextA : List AddrA → TextA
  | [] => []
  | a :: l => addrTextA a ++ moreTextA l
theorem list_text_snoc (l : List AddrA) (a : AddrA) : listTextA (l ++ [a]) = listTextA l ++ ((if l = [] then [] else [44, 32]) ++ addrTextA a) := by
  cases l with
  | nil => simp [listTextA, moreTextA]
  | cons b l =>
    show addrTextA b ++ moreTextA (l ++ [a]) = (addrTextA b ++ moreTextA l) ++ _
    unfold moreTextA
    simp
def printA (l : List AddrA) : TextA × Nat :=
  if l = [] ∨ l.all rightA = false then ([], 2) else if 64 < l.length then ([], 3) else (listTextA l, 0)

/-- What stands before the first byte that isn't a blank, a tab or in a comment. -/
def cmtA : TextA → Option TextA
  | [] => none
  | c :: r => if c = 41 then some r else if c = 40 then none else cmtA r
theorem cmt_len : ∀ (s r : TextA), cmtA s = some r → r.length < s.length
  | [], r, h => by cases h
  | c :: s, r, h => by
    unfold cmtA at h
    split at h
    · cases h
      simp
    · split at h
      · cases h
      · have := cmt_len s r h
        simp
        omega
def skipN : Nat → TextA → TextA
  | 0, s => s
  | _ + 1, [] => []
  | n + 1, c :: r => if c = 32 ∨ c = 9 then skipN n r else if c = 40 then (match cmtA r with | none => c :: r | some t => skipN n t) else c :: r
theorem skip_fuel : ∀ (n m : Nat) (s : TextA), s.length ≤ n → s.length ≤ m → skipN n s = skipN m s
  | 0, m, s, h, _ => by
    have : s = [] := List.eq_nil_of_length_eq_zero (by omega)
    subst this
    cases m <;> rfl
  | n + 1, m, [], _, _ => by cases m <;> rfl
  | n + 1, 0, c :: r, _, h => by simp at h
  | n + 1, m + 1, c :: r, h1, h2 => by
    simp at h1 h2
    unfold skipN
    split
    · exact skip_fuel n m r h1 h2
    · split
      · cases hc : cmtA r with
        | none => rfl
        | some t =>
          have := cmt_len r t hc
          exact skip_fuel n m t (by omega) (by omega)
      · rfl
def skipA (s : TextA) : TextA := skipN s.length s
theorem skip_nil : skipA [] = [] := rfl
theorem skip_blank {c : UInt8} (h : c = 32 ∨ c = 9) (r : TextA) : skipA (c :: r) = skipA r := by
  show skipN (r.length + 1) (c :: r) = _
  unfold skipN
  rw [if_pos h]
  rfl
theorem skip_cmt {r t : TextA} (h : cmtA r = some t) : skipA (40 :: r) = skipA t := by
  show skipN (r.length + 1) (40 :: r) = _
  unfold skipN
  rw [if_neg (by decide), if_pos rfl, h]
  exact skip_fuel _ _ _ (by have := cmt_len r t h; omega) (Nat.le_refl _)
theorem skip_bad {r : TextA} (h : cmtA r = none) : skipA (40 :: r) = 40 :: r := by
  show skipN (r.length + 1) (40 :: r) = _
  unfold skipN
  rw [if_neg (by decide), if_pos rfl, h]
theorem skip_else {c : UInt8} (h1 : ¬ (c = 32 ∨ c = 9)) (h2 : c ≠ 40) (r : TextA) : skipA (c :: r) = c :: r := by
  show skipN (r.length + 1) (c :: r) = _
  unfold skipN
  rw [if_neg h1, if_neg h2]
theorem skip_len : ∀ (n : Nat) (s : TextA), s.length ≤ n → (skipA s).length ≤ s.length
  | n, [], _ => Nat.le_refl _
  | 0, c :: r, h => by simp at h
  | n + 1, c :: r, h => by
    simp at h
    by_cases h1 : c = 32 ∨ c = 9
    · rw [skip_blank h1]
      have := skip_len n r h
      simp
      omega
    · by_cases h2 : c = 40
      · subst h2
        cases hc : cmtA r with
        | none =>
          rw [skip_bad hc]
          exact Nat.le_refl _
        | some t =>
          rw [skip_cmt hc]
          have h3 := cmt_len r t hc
          have := skip_len n t (by omega)
          simp
          omega
      · rw [skip_else h1 h2]
        exact Nat.le_refl _
theorem skip_le (s : TextA) : (skipA s).length ≤ s.length := skip_len s.length s (Nat.le_refl _)

/-- A word between quotes, behind its first quote: what it says, and what stands behind its last quote; `say`: was the byte ahead a backslash? -/
def hearA : Bool → TextA → TextA → Option (TextA × TextA)
  | _, _, [] => none
  | true, acc, c :: r => hearA false (acc ++ [c]) r
  | false, acc, c :: r => if c = 92 then hearA true acc r else if c = 34 then some (acc, r) else hearA false (acc ++ [c]) r
theorem hear_len : ∀ (s acc : TextA) (say : Bool) (w r : TextA), hearA say acc s = some (w, r) → r.length < s.length
  | [], acc, say, w, r, h => by cases say <;> cases h
  | c :: s, acc, true, w, r, h => by
    have := hear_len s _ false w r h
    simp
    omega
  | c :: s, acc, false, w, r, h => by
    unfold hearA at h
    split at h
    · have := hear_len s _ true w r h
      simp
      omega
    · split at h
      · cases h
        simp
      · have := hear_len s _ false w r h
        simp
        omega
theorem hear_word : ∀ (s acc : TextA) (say : Bool) (w r : TextA), hearA say acc s = some (w, r) → w.length ≤ acc.length + s.length
  | [], acc, say, w, r, h => by cases say <;> cases h
  | c :: s, acc, true, w, r, h => by
    have := hear_word s _ false w r h
    simp at this ⊢
    omega
  | c :: s, acc, false, w, r, h => by
    unfold hearA at h
    split at h
    · have := hear_word s _ true w r h
      simp
      omega
    · split at h
      · cases h
        simp
      · have := hear_word s _ false w r h
        simp at this ⊢
        omega
def wordA (s : TextA) : Option (TextA × TextA) := match s with
  | [] => none
  | c :: r => if c = 34 then hearA false [] r else if atomC c = true then some ((c :: r).takeWhile atomC, (c :: r).dropWhile atomC) else none
theorem drop_len (p : UInt8 → Bool) (s : TextA) : (s.dropWhile p).length ≤ s.length := (List.dropWhile_sublist _).length_le
theorem word_cons (c : UInt8) (r : TextA) : wordA (c :: r) = if c = 34 then hearA false [] r else if atomC c = true then some ((c :: r).takeWhile atomC, (c :: r).dropWhile atomC) else none := rfl
theorem word_len {s w r : TextA} (h : wordA s = some (w, r)) : r.length < s.length := by
  cases s with
  | nil => cases h
  | cons c s =>
    rw [word_cons] at h
    split at h
    · have := hear_len _ _ _ _ _ h
      simp
      omega
    · split at h
      · rename_i hc
        cases h
        rw [List.dropWhile_cons, if_pos hc]
        have := drop_len atomC s
        simp
        omega
      · cases h
/-- The words that a text begins with, behind those that were read. -/
def namesN : Nat → List TextA → TextA → List TextA × TextA
  | 0, ws, s => (ws, s)
  | n + 1, ws, s => match wordA s with
    | none => (ws, s)
    | some (w, r) => namesN n (ws ++ [w]) (skipA r)
def joinA (ws : List TextA) : TextA := Lib.join ws [32]
def readNameA (s : TextA) : Option (TextA × TextA) :=
  if (namesN (s.length + 1) [] s).1 = [] then none else some (joinA (namesN (s.length + 1) [] s).1, (namesN (s.length + 1) [] s).2)
def cutA (c : UInt8) : TextA → Option TextA
  | [] => none
  | d :: r => if d = c then some r else none
def readBareA (s : TextA) : Option (AddrA × TextA) := match cutA 64 (s.dropWhile (orDotA atomC)) with
  | none => none
  | some t => some (([], s.takeWhile (orDotA atomC), t.takeWhile (orDotA domC)), t.dropWhile (orDotA domC))
def readAddrA (s : TextA) : Option (AddrA × TextA) := match readBareA s with
  | some x => some x
  | none => match readNameA s with
    | none => none
    | some (n, r) => match cutA 60 r with
      | none => none
      | some t => match readBareA (skipA t) with
        | none => none
        | some (a, u) => match cutA 62 (skipA u) with
          | none => none
          | some v => some ((n, a.2.1, a.2.2), v)
def listN : Nat → List AddrA → TextA → Option (List AddrA)
  | 0, _, _ => none
  | n + 1, l, s => match readAddrA (skipA s) with
    | none => none
    | some (a, r) => if rightA a = false then none else if skipA r = [] then some (l ++ [a]) else match cutA 44 (skipA r) with
      | none => none
      | some t => listN n (l ++ [a]) t
def readListA (s : TextA) : Option (List AddrA) := listN (s.length + 1) [] s
def parseA (s : TextA) : List AddrA × Nat :=
  if 16384 < s.length then ([], 3) else match readListA s with
    | none => ([], 2)
    | some l => if 64 < l.length then ([], 3) else (l, 0)
/-- The address without a name of which a text is the text. -/
def mailA (s : TextA) : Option AddrA := match cutA 64 (s.dropWhile (· != 64)) with
  | none => none
  | some t => if rightA ([], s.takeWhile (· != 64), t) = true then some ([], s.takeWhile (· != 64), t) else none
theorem cutA_cons (c d : UInt8) (r : TextA) : cutA c (d :: r) = if d = c then some r else none := rfl
theorem cut_len {c : UInt8} {s t : TextA} (h : cutA c s = some t) : s = c :: t := by
  cases s with
  | nil => cases h
  | cons d r =>
    rw [cutA_cons] at h
    split at h
    · rename_i hc
      cases h
      rw [hc]
    · cases h
theorem cut_no_eq {c : UInt8} {s : TextA} (h : cutA c s = none) : ∀ r, s ≠ c :: r := by
  rintro r rfl
  rw [cutA_cons, if_pos rfl] at h
  cases h
theorem bare_len {s : TextA} {a : AddrA} {r : TextA} (h : readBareA s = some (a, r)) : r.length < s.length := by
  unfold readBareA at h
  split at h
  · cases h
  · rename_i t ht
    cases h
    have h1 := cut_len ht
    have h2 := drop_len (orDotA atomC) s
    have h3 := drop_len (orDotA domC) t
    rw [h1] at h2
    simp at h2
    omega
theorem names_len : ∀ (n : Nat) (ws : List TextA) (s : TextA), (namesN n ws s).2.length ≤ s.length
  | 0, ws, s => Nat.le_refl _
  | n + 1, ws, s => by
    unfold namesN
    split
    · exact Nat.le_refl _
    · rename_i w r h
      have h1 := word_len h
      have h2 := skip_le r
      have := names_len n (ws ++ [w]) (skipA r)
      omega
theorem addr_len {s : TextA} {a : AddrA} {r : TextA} (h : readAddrA s = some (a, r)) : r.length < s.length := by
  unfold readAddrA at h
  split at h
  · rename_i x hx
    cases h
    exact bare_len hx
  · split at h
    · cases h
    · rename_i n t hn
      split at h
      · cases h
      · rename_i u hu
        split at h
        · cases h
        · rename_i b v hb
          split at h
          · cases h
          · rename_i z hz
            cases h
            have h1 := cut_len hu
            have h2 := bare_len hb
            have h3 := cut_len hz
            have h4 := skip_le u
            have h5 := skip_le v
            rw [h3] at h5
            simp at h5
            unfold readNameA at hn
            split at hn
            · cases hn
            · cases hn
              have h6 := names_len (s.length + 1) [] s
              rw [h1] at h6
              simp at h6
              omega
theorem tell_len (c : UInt8) : (tellA c).length ≤ 2 := by
  unfold tellA
  split <;> simp
theorem tells_len : ∀ n : TextA, (n.flatMap tellA).length ≤ 2 * n.length
  | [] => by simp
  | c :: n => by
    have := tells_len n
    have := tell_len c
    rw [List.flatMap_cons, List.length_append, List.length_cons]
    omega
theorem bare_len2 (a : AddrA) : (bareA a).length = a.2.1.length + 1 + a.2.2.length := by
  unfold bareA
  simp
  omega
theorem name_len2 (n : TextA) : (nameTextA n).length ≤ 2 * n.length + 2 := by
  unfold nameTextA quoteA
  have := tells_len n
  split
  · omega
  · simp only [List.length_cons, List.length_append, List.length_nil]
    omega
theorem addr_text_len (a : AddrA) : (addrTextA a).length ≤ 2 * a.1.length + a.2.1.length + a.2.2.length + 6 := by
  have h1 := bare_len2 a
  have h2 := name_len2 a.1
  unfold addrTextA
  split
  · omega
  · simp only [List.length_cons, List.length_append, List.length_nil]
    omega
theorem right_len {a : AddrA} (h : rightA a = true) : a.1.length ≤ 64 ∧ a.2.1.length ≤ 64 ∧ a.2.2.length ≤ 64 := by
  unfold rightA nameA dottedA at h
  simp only [Bool.and_eq_true, decide_eq_true_eq] at h
  exact ⟨h.1.1, h.2.1.1, h.2.2.1⟩
end Go.Proofs.YtafpifpgfpkckaaDoor
