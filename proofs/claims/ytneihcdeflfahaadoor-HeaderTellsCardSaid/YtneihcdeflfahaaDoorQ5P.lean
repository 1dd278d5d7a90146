/-
  Lines cut at their ends by search, a line told piece by piece, and a told text read piece by piece: plain facts, of no program.
-/
import Derived.Test.YtneihcdeflfahaaDoorQ4E
import Derived.Lib.Index
import Derived.Lib.Bytealg
import Derived.Lib.Strings
namespace Go.Proofs.YtneihcdeflfahaaDoor

theorem pre2 (c d : UInt8) (r : List UInt8) : List.isPrefixOf [13, 10] (c :: d :: r) = decide (c = 13 ∧ d = 10) := by
  simp only [List.isPrefixOf, Bool.and_true]
  rw [Bool.eq_iff_iff]
  simp only [Bool.and_eq_true, beq_iff_eq, decide_eq_true_eq]
  constructor <;> rintro ⟨h1, h2⟩ <;> exact ⟨h1.symm, h2.symm⟩
/-- Lines by search: no end, or the first one. -/
theorem lines_search : ∀ l : List UInt8, (Lib.index l [13, 10] = -1 ∧ linesQ l = [l]) ∨ ∃ i : Nat, Lib.index l [13, 10] = i ∧ i + 2 ≤ l.length ∧ linesQ l = l.take i :: linesQ (l.drop (i + 2))
  | [] => .inl ⟨rfl, rfl⟩
  | [c] => .inl ⟨by simp [Lib.index, List.isPrefixOf], rfl⟩
  | c :: d :: r => by
    by_cases h : c = 13 ∧ d = 10
    · refine .inr ⟨0, ?_, by simp, ?_⟩
      · rw [Lib.index, pre2, decide_eq_true h]
        rfl
      · rw [linesQ, if_pos h]
        rfl
    · obtain ⟨l, ls, h1, h2⟩ := lines_cons c d r h
      rcases lines_search (d :: r) with ⟨hi, hl⟩ | ⟨i, hi, hle, hl⟩
      · left
        rw [h1] at hl
        cases hl
        refine ⟨?_, h2⟩
        rw [Lib.index, pre2, decide_eq_false h, hi]
        rfl
      · right
        rw [h1] at hl
        cases hl
        refine ⟨i + 1, ?_, by simp at hle ⊢; omega, ?_⟩
        · rw [Lib.index, pre2, decide_eq_false h, hi, if_neg (by simp), if_neg (by rw [beq_iff_eq]; omega)]
          push_cast
          rfl
        · rw [h2]
          rfl
theorem lines_none {l : List UInt8} (h : Lib.index l [13, 10] = -1) : linesQ l = [l] := by
  rcases lines_search l with ⟨_, h2⟩ | ⟨i, h1, _⟩
  · exact h2
  · rw [h] at h1; omega
theorem lines_some {l : List UInt8} {i : Nat} (h : Lib.index l [13, 10] = i) : i + 2 ≤ l.length ∧ linesQ l = l.take i :: linesQ (l.drop (i + 2)) := by
  rcases lines_search l with ⟨h1, _⟩ | ⟨j, h1, h2, h3⟩
  · rw [h] at h1; omega
  · obtain rfl : i = j := by omega
    exact ⟨h2, h3⟩

/-- What one sign adds to a told line of which n bytes stand in its last row, and how many then do. -/
def addQ (n : Nat) (x : List UInt8) : List UInt8 := if n + x.length > 75 then [61, 13, 10] ++ x else x
def roomQ (n : Nat) (x : List UInt8) : Nat := if n + x.length > 75 then x.length else n + x.length
theorem tell_cons (n : Nat) (c : UInt8) (r : List UInt8) : tellQ n (c :: r) = addQ n (signB c (decide (r = []))) ++ tellQ (roomQ n (signB c (decide (r = [])))) r := by
  rw [tellQ]
  unfold addQ roomQ
  split
  · rfl
  · rfl
theorem room_le {n : Nat} {x : List UInt8} (h : x.length ≤ 3) : roomQ n x ≤ 75 := by
  unfold roomQ
  split <;> omega
theorem add_len (n : Nat) (x : List UInt8) : (addQ n x).length ≤ x.length + 3 := by
  unfold addQ
  split <;> simp <;> omega

/-- What is told of the lines so far, and what stands ahead of the next one. -/
def soFarQ (pre : List (List UInt8)) : List UInt8 := joinQ (pre.map (tellQ 0))
def betweenQ (pre : List (List UInt8)) : List UInt8 := if pre = [] then [] else [13, 10]
theorem join_snoc (l : List UInt8) : ∀ a : List (List UInt8), a ≠ [] → joinQ (a ++ [l]) = joinQ a ++ (13 :: 10 :: l) := fun a h => by
  rw [join_append a [l] h (by simp)]
  rfl
theorem soFar_snoc (pre : List (List UInt8)) (x : List UInt8) : soFarQ (pre ++ [x]) = soFarQ pre ++ betweenQ pre ++ tellQ 0 x := by
  unfold soFarQ betweenQ
  rw [List.map_append]
  by_cases h : pre = []
  · subst h
    rfl
  · rw [if_neg h, List.map_singleton, join_snoc _ _ (by simpa using h), List.append_assoc]
    rfl
theorem soFar_len {s : List UInt8} {pre rest : List (List UInt8)} {x : List UInt8} (h : linesQ s = pre ++ x :: rest) : (soFarQ pre).length + (betweenQ pre).length + (tellQ 0 x).length ≤ 6 * s.length := by
  have h1 := upto_len (linesQ s) (pre.length + 1)
  have h2 := encQ_len s
  unfold encQ at h2
  have e : uptoQ (linesQ s) (pre.length + 1) = soFarQ (pre ++ [x]) := by
    unfold uptoQ soFarQ
    rw [h]
    congr 2
    rw [show pre ++ x :: rest = (pre ++ [x]) ++ rest by simp, List.take_append_of_le_length (by simp)]
    rw [List.take_of_length_le (by simp)]
  rw [e, soFar_snoc] at h1
  simp only [List.length_append] at h1
  omega

/-- A digit's number, or -1. -/
def digI : Option Nat → Int
  | some v => v
  | none => -1
/-- The byte of two digits. -/
def twoQ : Option Nat → Option Nat → List UInt8 → Option (List UInt8 × List UInt8)
  | some a, some b, r => some ([UInt8.ofNat (16 * a + b)], r)
  | _, _, _ => none
theorem twoQ_some {u v : Option Nat} {r p q : List UInt8} (h : twoQ u v r = some (p, q)) : p.length = 1 ∧ q = r := by
  cases u with
  | none => cases h
  | some a => cases v with
    | none => cases h
    | some b => cases h; exact ⟨rfl, rfl⟩
/-- The first sign, end or break of a text, and what stands behind it. -/
def cutQ (s : List UInt8) : Option (List UInt8 × List UInt8) :=
  if List.isPrefixOf [13, 10] s then some ([13, 10], s.drop 2)
  else if List.isPrefixOf [61, 13, 10] s then some ([], s.drop 3)
  else match s with
    | [] => none
    | c :: r => if c ≠ 61 then (if plainQ c false then some ([c], r) else none) else
      match r with
      | x :: y :: r' => twoQ (undigB x) (undigB y) r'
      | _ => none
theorem cut_len {s p r : List UInt8} (h : cutQ s = some (p, r)) : r.length < s.length ∧ p.length + r.length ≤ s.length := by
  unfold cutQ at h
  split at h
  · rename_i hp
    obtain ⟨t, rfl⟩ := List.isPrefixOf_iff_prefix.1 hp
    cases h
    simp; omega
  · split at h
    · rename_i hp
      obtain ⟨t, rfl⟩ := List.isPrefixOf_iff_prefix.1 hp
      cases h
      simp; omega
    · split at h
      · cases h
      · rename_i c t
        split at h
        · split at h
          · cases h
            simp only [List.length_cons, List.length_nil]
            omega
          · cases h
        · split at h
          · rename_i x y r'
            obtain ⟨h1, rfl⟩ := twoQ_some h
            simp only [List.length_cons, h1]
            omega
          · cases h
/-- A text read piece by piece; n: at most so many pieces. -/
def readN : Nat → List UInt8 → Option (List UInt8)
  | 0, s => if s = [] then some [] else none
  | n + 1, s => if s = [] then some [] else match cutQ s with
    | none => none
    | some (p, r) => (readN n r).map (p ++ ·)
theorem readN_nil (n : Nat) : readN n [] = some [] := by cases n <;> simp [readN]
theorem readN_more : ∀ (n m : Nat) (s : List UInt8), s.length ≤ n → n ≤ m → readN m s = readN n s
  | 0, m, s, h, _ => by
    obtain rfl : s = [] := List.eq_nil_of_length_eq_zero (by omega)
    rw [readN_nil, readN_nil]
  | n + 1, m, s, h, hm => by
    obtain ⟨m', rfl⟩ : ∃ m', m = m' + 1 := ⟨m - 1, by omega⟩
    by_cases e : s = []
    · subst e
      rw [readN_nil, readN_nil]
    · rw [readN, readN, if_neg e, if_neg e]
      cases hc : cutQ s with
      | none => rfl
      | some pr =>
        obtain ⟨p, r⟩ := pr
        have hl := (cut_len hc).1
        simp only
        rw [readN_more n m' r (by omega) (by omega)]
/-- What a text is read to. -/
def readQ (s : List UInt8) : Option (List UInt8) := readN s.length s
theorem readQ_nil : readQ [] = some [] := rfl
theorem readQ_cut {s p r : List UInt8} (h : cutQ s = some (p, r)) : readQ s = (readQ r).map (p ++ ·) := by
  have hl := (cut_len h).1
  unfold readQ
  obtain ⟨n, hn⟩ : ∃ n, s.length = n + 1 := ⟨s.length - 1, by omega⟩
  have hne : s ≠ [] := fun e => by rw [e] at hn; cases hn
  rw [hn, readN, if_neg hne, h]
  simp only
  rw [readN_more r.length n r (Nat.le_refl _) (by omega)]
theorem readQ_none {s : List UInt8} (hne : s ≠ []) (h : cutQ s = none) : readQ s = none := by
  unfold readQ
  cases s with
  | nil => exact absurd rfl hne
  | cons c r =>
    rw [List.length_cons, readN, if_neg (by simp), h]
theorem plain_any {c : UInt8} {last : Bool} (h : plainQ c last = true) : plainQ c false = true := by
  unfold plainQ at h ⊢
  simp only [Bool.or_eq_true, Bool.and_eq_true] at h ⊢
  rcases h with h | ⟨h, _⟩
  · exact .inl h
  · exact .inr ⟨h, rfl⟩
theorem read_sign (c : UInt8) (last : Bool) (r : List UInt8) : readQ (signB c last ++ r) = (readQ r).map (c :: ·) := by
  rcases sign_ways c last with ⟨hp, h⟩ | ⟨_, h⟩
  · rw [h]
    have ne := plain_ne hp
    have hc : cutQ ([c] ++ r) = some ([c], r) := by
      have hp1 : List.isPrefixOf [13, 10] ([c] ++ r) = false := by
        cases r <;> simp [List.isPrefixOf] <;> (intro e; exact absurd e.symm ne.2.1)
      have hp2 : List.isPrefixOf [61, 13, 10] ([c] ++ r) = false := by
        simp [List.isPrefixOf] <;> (intro e; exact absurd e.symm ne.1)
      unfold cutQ
      rw [hp1, hp2, if_neg (by simp), if_neg (by simp)]
      show (if c ≠ 61 then (if plainQ c false then some ([c], r) else none) else _) = _
      rw [if_pos ne.1, if_pos (plain_any hp)]
    rw [readQ_cut hc]
    rfl
  · rw [h]
    have hl := c.toNat_lt
    have h1 := dig_range (c.toNat / 16) (by omega)
    have hc : cutQ ([61, digB (c.toNat / 16), digB (c.toNat % 16)] ++ r) = some ([c], r) := by
      have hd : (13 : UInt8) ≠ digB (c.toNat / 16) := fun e => by
        have := congrArg UInt8.toNat e
        have h13 : (13 : UInt8).toNat = 13 := rfl
        omega
      have hp1 : List.isPrefixOf [13, 10] ([61, digB (c.toNat / 16), digB (c.toNat % 16)] ++ r) = false := by
        simp [List.isPrefixOf]
      have hp2 : List.isPrefixOf [61, 13, 10] ([61, digB (c.toNat / 16), digB (c.toNat % 16)] ++ r) = false := by
        simp [List.isPrefixOf, hd]
      unfold cutQ
      rw [hp1, hp2, if_neg (by simp), if_neg (by simp)]
      simp only [List.cons_append, List.nil_append, ne_eq, not_true, if_false]
      rw [undig_dig _ (by omega), undig_dig _ (by omega), twoQ]
      rw [show 16 * (c.toNat / 16) + c.toNat % 16 = c.toNat by omega, UInt8.ofNat_toNat]
    rw [readQ_cut hc]
    rfl
theorem read_soft (r : List UInt8) : readQ (61 :: 13 :: 10 :: r) = readQ r := by
  have hc : cutQ (61 :: 13 :: 10 :: r) = some ([], r) := by
    unfold cutQ
    rw [if_neg (by simp [List.isPrefixOf]), if_pos (by simp [List.isPrefixOf])]
    rfl
  rw [readQ_cut hc]
  cases readQ r <;> rfl
theorem read_end (r : List UInt8) : readQ (13 :: 10 :: r) = (readQ r).map ([13, 10] ++ ·) := by
  have hc : cutQ (13 :: 10 :: r) = some ([13, 10], r) := by
    unfold cutQ
    rw [if_pos (by simp [List.isPrefixOf])]
    rfl
  rw [readQ_cut hc]
theorem read_tell (t : List UInt8) : ∀ (l : List UInt8) (n : Nat), readQ (tellQ n l ++ t) = (readQ t).map (l ++ ·)
  | [], n => by
    rw [tellQ]
    cases h : readQ t <;> simp [h]
  | c :: r, n => by
    rw [tellQ]
    split
    · rw [List.cons_append, List.cons_append, List.cons_append, read_soft, List.append_assoc, read_sign, read_tell t r]
      cases readQ t <;> rfl
    · rw [List.append_assoc, read_sign, read_tell t r]
      cases readQ t <;> rfl
theorem read_join : ∀ ls : List (List UInt8), readQ (joinQ (ls.map (tellQ 0))) = some (joinQ ls)
  | [] => rfl
  | [l] => by
    show readQ (tellQ 0 l) = some l
    have := read_tell [] l 0
    rw [List.append_nil] at this
    rw [this, readQ_nil]
    simp
  | l :: m :: ls => by
    have ih := read_join (m :: ls)
    rw [List.map_cons, join_cons _ (by simp), read_tell, read_end, ih]
    show some (l ++ 13 :: 10 :: joinQ (m :: ls)) = _
    rw [join_cons l (ls := m :: ls) (by simp)]
/-- WHAT WAS TOLD IS READ, piece by piece. -/
theorem read_enc (s : List UInt8) : readQ (encQ s) = some s := by
  unfold encQ
  rw [read_join, join_lines]
/-- Reading piece by piece, and telling what was read, is the one way of decoding. -/
theorem read_dec (t : List UInt8) : decQ t = (match readQ t with
    | some s => if encQ s = t then some s else none
    | none => none) := by
  refine (decQ_only (fun s h => ?_) (fun s h => ?_)).symm
  · cases hr : readQ t with
    | none => rw [hr] at h; cases h
    | some u =>
      rw [hr] at h
      simp only at h
      by_cases e : encQ u = t
      · rw [if_pos e] at h
        cases h
        exact e
      · rw [if_neg e] at h
        cases h
  · have hr : readQ t = some s := by rw [← h]; exact read_enc s
    rw [hr]
    simp only
    rw [if_pos h]
theorem readN_len : ∀ (n : Nat) (s l : List UInt8), readN n s = some l → l.length ≤ s.length
  | 0, s, l, h => by
    rw [readN] at h
    split at h
    · cases h; simp
    · cases h
  | n + 1, s, l, h => by
    rw [readN] at h
    split at h
    · cases h; simp
    · cases hc : cutQ s with
      | none => rw [hc] at h; cases h
      | some pr =>
        obtain ⟨p, r⟩ := pr
        rw [hc] at h
        simp only at h
        cases hr : readN n r with
        | none => rw [hr] at h; cases h
        | some q =>
          rw [hr] at h
          cases h
          have := readN_len n r q hr
          have := (cut_len hc).2
          simp only [List.length_append]
          omega
theorem read_len {s l : List UInt8} (h : readQ s = some l) : l.length ≤ s.length := readN_len _ _ _ h
theorem digits_index : ∀ n : Fin 256, Lib.indexByte [48, 49, 50, 51, 52, 53, 54, 55, 56, 57, 65, 66, 67, 68, 69, 70] (UInt8.ofNat n) = digI (undigB (UInt8.ofNat n)) := by decide +kernel
theorem digit_index (c : UInt8) : Lib.indexByte [48, 49, 50, 51, 52, 53, 54, 55, 56, 57, 65, 66, 67, 68, 69, 70] c = digI (undigB c) := by
  have := digits_index ⟨c.toNat, c.toNat_lt⟩
  simpa using this
end Go.Proofs.YtneihcdeflfahaaDoor
