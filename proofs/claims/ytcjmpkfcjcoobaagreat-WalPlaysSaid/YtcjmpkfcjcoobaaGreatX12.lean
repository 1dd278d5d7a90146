/-
  Texts of this proof, put together: W8R, W8P, W8T, W8S, W8L, W8M.
-/
import Derived.Lib.Strings
import GoSem.Op.String
namespace Go.Proofs.YtcjmpkfcjcoobaaGreat

/-- A number's four bytes, the highest first. -/
def be4 (n : Nat) : List UInt8 := [UInt8.ofNat (n / 16777216), UInt8.ofNat (n / 65536), UInt8.ofNat (n / 256), UInt8.ofNat n]
/-- .. and back. -/
def val4 : List UInt8 → Nat
  | [a, b, c, d] => ((a.toNat * 256 + b.toNat) * 256 + c.toNat) * 256 + d.toNat
  | _ => 0
theorem be4_len (n : Nat) : (be4 n).length = 4 := rfl
theorem val_be4 {n : Nat} (h : n < 4294967296) : val4 (be4 n) = n := by
  unfold be4 val4
  simp only [UInt8.toNat_ofNat']
  omega
/-- How many sectors a record of so long a text takes. -/
def secN (n : Nat) : Nat := (14 + n + 32 + 1 + 63) / 64
theorem secN_pos (n : Nat) : 1 ≤ secN n := by unfold secN; omega
/-- Taken together texts take no more. -/
theorem secN_add (a b : Nat) : secN (a + b) ≤ secN a + secN b := by unfold secN; omega
theorem secN_mono {a b : Nat} (h : a ≤ b) : secN a ≤ secN b := by unfold secN; omega
section
variable (H : List UInt8 → List UInt8)
def headR (gen num : Nat) (t : List UInt8) : List UInt8 := [77, 71] ++ be4 gen ++ be4 num ++ be4 t.length ++ t
/-- A record's bytes. -/
def recR (gen num : Nat) (t : List UInt8) : List UInt8 := headR gen num t ++ H (headR gen num t)
theorem head_len (gen num : Nat) (t : List UInt8) : (headR gen num t).length = 14 + t.length := by
  unfold headR
  simp [be4_len]
  omega
variable (hH : ∀ l, (H l).length = 32)
include hH in
theorem rec_len (gen num : Nat) (t : List UInt8) : (recR H gen num t).length = 46 + t.length := by
  unfold recR
  rw [List.length_append, head_len, hH]
  omega
/-- Filled up with bytes 0. -/
def padR (k : Nat) (l : List UInt8) : List UInt8 := l ++ List.replicate (k - l.length) 0
theorem pad_len {k : Nat} {l : List UInt8} (h : l.length ≤ k) : (padR k l).length = k := by
  unfold padR
  rw [List.length_append, List.length_replicate]
  omega
theorem pad_take (k : Nat) (l : List UInt8) : (padR k l).take l.length = l := by
  unfold padR
  exact List.take_left' rfl
/-- Bytes in so many sectors of 64. -/
def cutR : Nat → List UInt8 → List (List UInt8)
  | 0, _ => []
  | n + 1, l => padR 64 (l.take 64) :: cutR n (l.drop 64)
theorem cut_len : ∀ (n : Nat) (l : List UInt8), (cutR n l).length = n
  | 0, _ => rfl
  | n + 1, l => by rw [cutR, List.length_cons, cut_len n]
theorem cut_each : ∀ (n : Nat) (l : List UInt8), ∀ s ∈ cutR n l, s.length = 64
  | 0, _, s, h => by cases h
  | n + 1, l, s, h => by
    rw [cutR] at h
    rcases List.mem_cons.1 h with rfl | h
    · exact pad_len (by rw [List.length_take]; omega)
    · exact cut_each n _ s h
/-- They tell the bytes, if they are enough. -/
theorem cut_flat : ∀ (n : Nat) (l : List UInt8), l.length ≤ 64 * n → (cutR n l).flatten.take l.length = l
  | 0, l, h => by
    obtain rfl : l = [] := List.eq_nil_of_length_eq_zero (by omega)
    rfl
  | n + 1, l, h => by
    rw [cutR, List.flatten_cons]
    by_cases h64 : l.length ≤ 64
    · rw [List.take_append_of_le_length (by rw [pad_len (by rw [List.length_take]; omega)]; exact h64), List.take_of_length_le h64]
      exact pad_take 64 l
    · have ht : (l.take 64).length = 64 := by rw [List.length_take]; omega
      have hp : padR 64 (l.take 64) = l.take 64 := by
        unfold padR
        rw [ht]
        simp
      have ih := cut_flat n (l.drop 64) (by rw [List.length_drop]; omega)
      rw [List.length_drop] at ih
      rw [hp, List.take_append, ht, List.take_of_length_le (by omega), ih, List.take_append_drop]
/-- A record in its sectors: its first 63 bytes, a byte M, and what is left of it. -/
def laidR (gen num : Nat) (t : List UInt8) : List (List UInt8) :=
  (padR 63 ((recR H gen num t).take 63) ++ [77]) :: cutR (secN t.length - 1) ((recR H gen num t).drop 63)
theorem laid_len (gen num : Nat) (t : List UInt8) : (laidR H gen num t).length = secN t.length := by
  have := secN_pos t.length
  unfold laidR
  rw [List.length_cons, cut_len]
  omega
theorem laid_each (gen num : Nat) (t : List UInt8) : ∀ s ∈ laidR H gen num t, s.length = 64 := by
  intro s hs
  unfold laidR at hs
  rcases List.mem_cons.1 hs with rfl | hs
  · rw [List.length_append, pad_len (by rw [List.length_take]; omega)]
    rfl
  · exact cut_each _ _ s hs

/-- The bytes that so many sectors may tell of a record: of the first one 63. -/
def bytesR (n : Nat) : List (List UInt8) → List UInt8
  | [] => []
  | s :: ss => s.take 63 ++ (ss.take (n - 1)).flatten
/-- A whole record at the head of some sectors: its generation, its number, its text, and how many sectors it takes. -/
def readR : List (List UInt8) → Option (Nat × Nat × List UInt8)
  | [] => none
  | s :: ss =>
    let n := val4 ((s.drop 10).take 4)
    let b := bytesR (secN n) (s :: ss)
    if s.getD 63 0 = 77 ∧ s.take 2 = [77, 71] ∧ secN n ≤ ss.length + 1 ∧ (b.drop (14 + n)).take 32 = H (b.take (14 + n)) then some (val4 ((s.drop 2).take 4), val4 ((s.drop 6).take 4), (b.drop 14).take n) else none
include hH in
/-- What was laid is read. -/
theorem read_laid {gen num : Nat} {t : List UInt8} (hg : gen < 4294967296) (hn : num < 4294967296) (ht : t.length < 4294967296) (more : List (List UInt8)) :
    readR H (laidR H gen num t ++ more) = some (gen, num, t) := by
  have hl := rec_len H hH gen num t
  have hs := secN_pos t.length
  obtain ⟨r, hr⟩ : ∃ r, recR H gen num t = r := ⟨_, rfl⟩
  have h63 : (padR 63 (r.take 63)).length = 63 := pad_len (by rw [List.length_take]; omega)
  have hhead : r.take (14 + t.length) = headR gen num t := by
    rw [← hr]
    unfold recR
    exact List.take_left' (head_len gen num t)
  have hdig : r.drop (14 + t.length) = H (headR gen num t) := by
    rw [← hr]
    unfold recR
    exact List.drop_left' (head_len gen num t)
  have hr46 : 46 ≤ r.length := by rw [← hr, hl]; omega
  -- the first bytes of the first sector are the record's
  have hfirst : ∀ k, k ≤ 46 → (padR 63 (r.take 63) ++ [77]).take k = r.take k := fun k hk => by
    rw [List.take_append_of_le_length (by omega)]
    unfold padR
    rw [List.take_append_of_le_length (by rw [List.length_take]; omega), List.take_take, Nat.min_eq_left (by omega)]
  have hfield : ∀ a, a + 4 ≤ 14 → ((padR 63 (r.take 63) ++ [77]).drop a).take 4 = ((headR gen num t).drop a).take 4 := fun a ha => by
    rw [List.take_drop, List.take_drop, hfirst _ (by omega), ← hhead, List.take_take, Nat.min_eq_left (by omega)]
  have e2 : (padR 63 (r.take 63) ++ [77]).take 2 = [77, 71] := by
    have h : (headR gen num t).take 2 = [77, 71] := rfl
    rw [hfirst 2 (by omega), ← h, ← hhead, List.take_take, Nat.min_eq_left (by omega)]
  have ef : ∀ (a : Nat) (x : List UInt8), a + 4 ≤ 14 → ((headR gen num t).drop a).take 4 = x → ((padR 63 (r.take 63) ++ [77]).drop a).take 4 = x := fun a x ha h => (hfield a ha).trans h
  have e3 := ef 2 (be4 gen) (by omega) rfl
  have e6 := ef 6 (be4 num) (by omega) rfl
  have e10 := ef 10 (be4 t.length) (by omega) rfl
  have em : (padR 63 (r.take 63) ++ [77]).getD 63 0 = 77 := by
    rw [List.getD_eq_getElem?_getD, List.getElem?_append_right (by omega), h63]
    rfl
  -- the bytes
  have hb : (bytesR (secN t.length) ((padR 63 (r.take 63) ++ [77]) :: (cutR (secN t.length - 1) (r.drop 63) ++ more))).take r.length = r := by
    show ((padR 63 (r.take 63) ++ [77]).take 63 ++ ((cutR (secN t.length - 1) (r.drop 63) ++ more).take (secN t.length - 1)).flatten).take r.length = r
    rw [List.take_left' h63, List.take_left' (cut_len _ _)]
    by_cases h : r.length ≤ 63
    · rw [List.take_append_of_le_length (by omega)]
      have h1 : r.take 63 = r := List.take_of_length_le h
      rw [h1]
      exact pad_take 63 r
    · have ht63 : (r.take 63).length = 63 := by rw [List.length_take]; omega
      have hp : padR 63 (r.take 63) = r.take 63 := by
        unfold padR
        rw [ht63]
        simp
      have hc := cut_flat (secN t.length - 1) (r.drop 63) (by
        rw [List.length_drop, ← hr, hl]
        unfold secN
        omega)
      rw [List.length_drop] at hc
      rw [hp, List.take_append, ht63, List.take_of_length_le (by omega), hc, List.take_append_drop]
  obtain ⟨b, hbb⟩ : ∃ b, bytesR (secN t.length) ((padR 63 (r.take 63) ++ [77]) :: (cutR (secN t.length - 1) (r.drop 63) ++ more)) = b := ⟨_, rfl⟩
  rw [hbb] at hb
  have hrl : r.length = 46 + t.length := by rw [← hr, hl]
  have hb1 : b.take (14 + t.length) = headR gen num t := by
    rw [← hhead, ← hb, List.take_take, Nat.min_eq_left (by omega)]
  have hb2 : (b.drop (14 + t.length)).take 32 = H (headR gen num t) := by
    rw [← hdig]
    conv => rhs; rw [← hb]
    rw [List.drop_take, show r.length - (14 + t.length) = 32 by omega]
  have hb3 : (b.drop 14).take t.length = t := by
    have e : (headR gen num t).drop 14 = t := rfl
    conv => rhs; rw [← e, ← hb1]
    rw [List.drop_take, show 14 + t.length - 14 = t.length by omega]
  unfold laidR
  rw [hr, List.cons_append]
  unfold readR
  simp only [e10, val_be4 ht, hbb, e3, e6, val_be4 hg, val_be4 hn, hb1, hb2, hb3, em, e2]
  rw [if_pos ⟨trivial, trivial, by rw [List.length_append, cut_len]; omega, trivial⟩]
/-- Of an empty sector none is read. -/
theorem read_empty (ss : List (List UInt8)) : readR H (List.replicate 64 0 :: ss) = none := by
  unfold readR
  simp only
  rw [if_neg (fun h => absurd h.1 (by decide))]
/-- Records one behind the other, of one generation, their numbers from num on. -/
def rowR (gen : Nat) : Nat → List (List UInt8) → List (List UInt8)
  | _, [] => []
  | num, t :: ts => laidR H gen num t ++ rowR gen (num + 1) ts
/-- What is told of sectors, by at most so many records: the texts up to the first one that isn't whole, of that generation and of the next number. -/
def tellR (gen : Nat) : Nat → Nat → List (List UInt8) → List (List UInt8)
  | 0, _, _ => []
  | f + 1, num, ss =>
    match readR H ss with
    | some (g, m, t) => if g = gen ∧ m = num then t :: tellR gen f (num + 1) (ss.drop (secN t.length)) else []
    | none => []
include hH in
/-- What lies in a row is told, if behind it no record of its is whole. -/
theorem tell_row {gen : Nat} (hg : gen < 4294967296) {more : List (List UInt8)} (hm : readR H more = none) : ∀ (ts : List (List UInt8)) (num f : Nat), (∀ t ∈ ts, t.length < 4294967296) → num + ts.length ≤ 4294967296 → ts.length ≤ f →
    tellR H gen f num (rowR H gen num ts ++ more) = ts
  | [], num, f, _, _, _ => by
    cases f with
    | zero => rfl
    | succ f =>
      show (match readR H more with | some (g, m, t) => _ | none => _) = _
      rw [hm]
  | t :: ts, num, 0, _, _, hf => by simp at hf
  | t :: ts, num, f + 1, ht, hn, hf => by
    simp only [List.length_cons] at hn hf
    have hr := read_laid H hH (t := t) hg (show num < 4294967296 by omega) (ht t (List.mem_cons_self ..)) (rowR H gen (num + 1) ts ++ more)
    have hd : (laidR H gen num t ++ (rowR H gen (num + 1) ts ++ more)).drop (secN t.length) = rowR H gen (num + 1) ts ++ more := List.drop_left' (laid_len H gen num t)
    have ih := tell_row hg hm ts (num + 1) f (fun x hx => ht x (List.mem_cons_of_mem _ hx)) (by omega) (by omega)
    have hrow : rowR H gen num (t :: ts) ++ more = laidR H gen num t ++ (rowR H gen (num + 1) ts ++ more) := by
      show (laidR H gen num t ++ rowR H gen (num + 1) ts) ++ more = _
      rw [List.append_assoc]
    rw [hrow]
    unfold tellR
    rw [hr]
    show (if gen = gen ∧ num = num then t :: tellR H gen f (num + 1) ((laidR H gen num t ++ (rowR H gen (num + 1) ts ++ more)).drop (secN t.length)) else []) = _
    rw [if_pos ⟨rfl, rfl⟩, hd, ih]
end
end Go.Proofs.YtcjmpkfcjcoobaaGreat
namespace Go.Proofs.YtcjmpkfcjcoobaaGreat

abbrev KeyP := List UInt8
/-- Ahead of: the order of texts. -/
abbrev lessP (a b : KeyP) : Bool := Op.bytesLess a b
theorem less_irrefl : ∀ a : KeyP, lessP a a = false
  | [] => rfl
  | a :: x => by
    show (decide (a < a) || (a == a && Op.bytesLess x x)) = false
    rw [show Op.bytesLess x x = false from less_irrefl x]
    simp
theorem less_trans : ∀ {a b c : KeyP}, lessP a b = true → lessP b c = true → lessP a c = true
  | x, [], _, h, _ => by
    have e : lessP x [] = false := by cases x <;> rfl
    rw [e] at h
    cases h
  | [], b :: y, [], _, h => by cases h
  | [], b :: y, c :: z, _, _ => rfl
  | a :: x, b :: y, [], _, h => by cases h
  | a :: x, b :: y, c :: z, h1, h2 => by
    replace h1 : (decide (a < b) || (a == b && Op.bytesLess x y)) = true := h1
    replace h2 : (decide (b < c) || (b == c && Op.bytesLess y z)) = true := h2
    show (decide (a < c) || (a == c && Op.bytesLess x z)) = true
    simp only [Bool.or_eq_true, decide_eq_true_eq, Bool.and_eq_true, beq_iff_eq] at h1 h2 ⊢
    rcases h1 with h1 | ⟨rfl, h1⟩
    · rcases h2 with h2 | ⟨rfl, h2⟩
      · exact .inl (UInt8.lt_trans h1 h2)
      · exact .inl h1
    · rcases h2 with h2 | ⟨rfl, h2⟩
      · exact .inl h2
      · exact .inr ⟨rfl, less_trans h1 h2⟩
theorem less_total : ∀ {a b : KeyP}, a ≠ b → lessP a b = false → lessP b a = true
  | [], [], h, _ => absurd rfl h
  | [], _ :: _, _, h => by cases h
  | _ :: _, [], _, _ => rfl
  | a :: x, b :: y, h, h1 => by
    replace h1 : (decide (a < b) || (a == b && Op.bytesLess x y)) = false := h1
    show (decide (b < a) || (b == a && Op.bytesLess y x)) = true
    simp only [Bool.or_eq_false_iff, decide_eq_false_iff_not, Bool.and_eq_false_iff, beq_eq_false_iff_ne] at h1
    simp only [Bool.or_eq_true, decide_eq_true_eq, Bool.and_eq_true, beq_iff_eq]
    by_cases e : a = b
    · subst e
      refine .inr ⟨rfl, less_total (fun e => h (by rw [e])) ?_⟩
      rcases h1.2 with h2 | h2
      · exact absurd rfl h2
      · exact h2
    · refine .inl ?_
      have h2 := h1.1
      rw [UInt8.not_lt] at h2
      exact UInt8.lt_of_le_of_ne h2 (fun e2 => e e2.symm)

abbrev PairP := KeyP × List UInt8
/-- By rising keys. -/
def SortedP (l : List PairP) : Prop := l.Pairwise fun a b => lessP a.1 b.1 = true
/-- What they tell of a key. -/
def findP (l : List PairP) (k : KeyP) : Option (List UInt8) := (l.find? fun p => p.1 == k).map (·.2)
/-- A change: of a key, to a value, or that it goes. -/
structure Ch where
  key : KeyP
  val : List UInt8
  gone : Bool
/-- Pairs behind a change; todo: the key's place is still ahead. -/
def doneP (c : Ch) : Bool → List PairP → List PairP
  | todo, [] => if todo then [(c.key, c.val)] else []
  | todo, p :: l =>
    (if (todo && (lessP c.key p.1 || c.key == p.1)) = true then [(c.key, c.val)] else []) ++ ((if p.1 = c.key then [] else [p]) ++ doneP c (todo && !(lessP c.key p.1 || c.key == p.1)) l)
theorem sorted_cons {p : PairP} {l : List PairP} : SortedP (p :: l) ↔ (∀ q ∈ l, lessP p.1 q.1 = true) ∧ SortedP l := List.pairwise_cons
/-- Where the key's place is behind, or the key goes, it is left out. -/
theorem done_off (c : Ch) : ∀ l : List PairP, doneP c false l = l.filter fun p => !(p.1 == c.key)
  | [] => rfl
  | p :: l => by
    unfold doneP
    rw [Bool.false_and, if_neg (by decide), Bool.false_and, done_off c l, List.nil_append, List.filter_cons]
    by_cases h : p.1 = c.key
    · rw [if_pos h, if_neg (by simp [h])]
      rfl
    · rw [if_neg h, if_pos (by simp [h])]
      rfl
theorem done_mem (c : Ch) : ∀ (t : Bool) (l : List PairP) (q : PairP), q ∈ doneP c t l → (q = (c.key, c.val) ∧ t = true) ∨ (q ∈ l ∧ q.1 ≠ c.key)
  | t, [], q, h => by
    unfold doneP at h
    split at h
    · rename_i ht
      exact .inl ⟨by simpa using h, ht⟩
    · cases h
  | t, p :: l, q, h => by
    unfold doneP at h
    rcases List.mem_append.1 h with h | h
    · split at h
      · rename_i ht
        simp only [Bool.and_eq_true] at ht
        exact .inl ⟨by simpa using h, ht.1⟩
      · cases h
    · rcases List.mem_append.1 h with h | h
      · split at h
        · cases h
        · rename_i hp
          have e : q = p := by simpa using h
          exact .inr ⟨by rw [e]; exact List.mem_cons_self .., by rw [e]; exact hp⟩
      · rcases done_mem c _ l q h with ⟨h1, h2⟩ | ⟨h1, h2⟩
        · simp only [Bool.and_eq_true] at h2
          exact .inl ⟨h1, h2.1⟩
        · exact .inr ⟨List.mem_cons_of_mem _ h1, h2⟩
theorem done_sorted (c : Ch) : ∀ (t : Bool) (l : List PairP), SortedP l → SortedP (doneP c t l)
  | t, [], _ => by
    unfold doneP
    split
    · exact List.pairwise_singleton ..
    · exact List.Pairwise.nil
  | t, p :: l, h => by
    obtain ⟨h1, h2⟩ := sorted_cons.1 h
    have ih := done_sorted c (t && !(lessP c.key p.1 || c.key == p.1)) l h2
    have hmem := done_mem c (t && !(lessP c.key p.1 || c.key == p.1)) l
    unfold doneP
    obtain ⟨r, hr⟩ : ∃ r, doneP c (t && !(lessP c.key p.1 || c.key == p.1)) l = r := ⟨_, rfl⟩
    rw [hr] at ih hmem ⊢
    -- behind p all is greater than p
    have hpr : p.1 ≠ c.key → ∀ q ∈ r, lessP p.1 q.1 = true := fun hne q hq => by
      rcases hmem q hq with ⟨rfl, ht⟩ | ⟨hq, _⟩
      · simp only [Bool.and_eq_true, Bool.not_eq_true', Bool.or_eq_false_iff] at ht
        exact less_total (fun e => hne e.symm) ht.2.1
      · exact h1 q hq
    have hmid : SortedP ((if p.1 = c.key then [] else [p]) ++ r) := by
      split
      · exact ih
      · rename_i hne
        exact sorted_cons.2 ⟨hpr hne, ih⟩
    split
    · rename_i ht
      simp only [Bool.and_eq_true, Bool.or_eq_true, beq_iff_eq] at ht
      refine sorted_cons.2 ⟨fun q hq => ?_, hmid⟩
      have hr0 : ∀ q ∈ r, q ∈ l ∧ q.1 ≠ c.key := fun q hq => by
        rcases hmem q hq with ⟨_, h3⟩ | h3
        · simp only [Bool.and_eq_true, Bool.not_eq_true', Bool.or_eq_false_iff, beq_eq_false_iff_ne] at h3
          rcases ht.2 with h4 | h4
          · rw [h4] at h3
            exact absurd h3.2.1 (by decide)
          · exact absurd h4 h3.2.2
        · exact h3
      replace hq : q ∈ (if p.1 = c.key then [] else [p]) ++ r := hq
      rcases List.mem_append.1 hq with hq | hq
      · split at hq
        · cases hq
        · rename_i hne
          have e : q = p := by simpa using hq
          rw [e]
          rcases ht.2 with h4 | h4
          · exact h4
          · exact absurd h4.symm hne
      · have h5 := h1 q (hr0 q hq).1
        rcases ht.2 with h4 | h4
        · exact less_trans h4 h5
        · show lessP c.key q.1 = true
          rw [h4]
          exact h5
    · exact hmid
theorem find_cons (p : PairP) (l : List PairP) (k : KeyP) : findP (p :: l) k = if p.1 = k then some p.2 else findP l k := by
  unfold findP
  rw [List.find?_cons]
  by_cases h : p.1 = k
  · rw [if_pos h, show (p.1 == k) = true by simp [h]]
    rfl
  · rw [if_neg h, show (p.1 == k) = false by simp [h]]
/-- What is told behind a change, of any other key. -/
theorem find_done_other (c : Ch) {k : KeyP} (hk : k ≠ c.key) : ∀ (t : Bool) (l : List PairP), findP (doneP c t l) k = findP l k
  | t, [] => by
    unfold doneP
    split
    · rw [find_cons, if_neg (fun e => hk e.symm)]
    · rfl
  | t, p :: l => by
    have ih := find_done_other c hk (t && !(lessP c.key p.1 || c.key == p.1)) l
    unfold doneP
    have hmid : findP ((if p.1 = c.key then [] else [p]) ++ doneP c (t && !(lessP c.key p.1 || c.key == p.1)) l) k = findP (p :: l) k := by
      rw [find_cons]
      split
      · rename_i h
        rw [List.nil_append, if_neg (fun e => hk (by rw [← e, h]))]
        exact ih
      · rw [List.singleton_append, find_cons, ih]
    split
    · rw [List.singleton_append, find_cons, if_neg (fun e => hk e.symm)]
      exact hmid
    · rw [List.nil_append]
      exact hmid
theorem find_none_of {l : List PairP} {k : KeyP} (h : ∀ p ∈ l, p.1 ≠ k) : findP l k = none := by
  unfold findP
  rw [List.find?_eq_none.2 (fun p hp => by simp [h p hp])]
  rfl
/-- .. of the key itself. -/
theorem find_done_gone (c : Ch) (l : List PairP) : findP (doneP c false l) c.key = none := by
  refine find_none_of fun p hp => ?_
  rcases done_mem c false l p hp with ⟨_, h⟩ | ⟨_, h⟩
  · cases h
  · exact h
theorem find_done_self (c : Ch) : ∀ l : List PairP, SortedP l → findP (doneP c true l) c.key = some c.val
  | [], _ => by
    unfold doneP
    rw [if_pos rfl, find_cons, if_pos rfl]
  | p :: l, h => by
    obtain ⟨h1, h2⟩ := sorted_cons.1 h
    unfold doneP
    rw [Bool.true_and]
    by_cases ht : (lessP c.key p.1 || c.key == p.1) = true
    · rw [if_pos ht, List.singleton_append, find_cons, if_pos rfl]
    · have hf : (lessP c.key p.1 || c.key == p.1) = false := by simpa using ht
      rw [if_neg ht, hf, List.nil_append]
      simp only [Bool.or_eq_false_iff, beq_eq_false_iff_ne] at hf
      rw [if_neg (fun e => hf.2 e.symm), List.singleton_append, find_cons, if_neg (fun e => hf.2 e.symm)]
      exact find_done_self c l h2
/-- Rows by rising keys that tell the same are the same. -/
theorem sorted_ext : ∀ {l l' : List PairP}, SortedP l → SortedP l' → (∀ k, findP l k = findP l' k) → l = l'
  | [], [], _, _, _ => rfl
  | [], p :: l, _, _, h => by
    have := h p.1
    rw [find_cons, if_pos rfl] at this
    cases this
  | p :: l, [], _, _, h => by
    have := h p.1
    rw [find_cons, if_pos rfl] at this
    cases this
  | p :: l, q :: l', h1, h2, h => by
    obtain ⟨a1, a2⟩ := sorted_cons.1 h1
    obtain ⟨b1, b2⟩ := sorted_cons.1 h2
    have hin : ∀ {m : List PairP} {k : KeyP} {x : List UInt8}, findP m k = some x → ∃ r ∈ m, r.1 = k ∧ r.2 = x := fun {m k x} hm => by
      unfold findP at hm
      obtain ⟨r, hr, e⟩ := Option.map_eq_some_iff.1 hm
      exact ⟨r, List.mem_of_find?_eq_some hr, by have := List.find?_some hr; simpa using this, e⟩
    have hp := h p.1
    have hq := h q.1
    rw [find_cons, if_pos rfl] at hp
    rw [find_cons q, if_pos rfl] at hq
    have hpq : p.1 = q.1 := by
      obtain ⟨r, hr, e, _⟩ := hin hp.symm
      obtain ⟨s, hs, e2, _⟩ := hin hq
      rcases List.mem_cons.1 hr with rfl | hr
      · exact e.symm
      · rcases List.mem_cons.1 hs with rfl | hs
        · exact e2
        · have h3 := b1 r hr
          have h4 := a1 s hs
          rw [e] at h3
          rw [e2] at h4
          have := less_trans h3 h4
          rw [less_irrefl] at this
          cases this
    have hv : p.2 = q.2 := by
      rw [find_cons, if_pos hpq.symm] at hp
      exact Option.some.inj hp
    have e : p = q := Prod.ext hpq hv
    subst e
    congr 1
    refine sorted_ext a2 b2 fun k => ?_
    have hk := h k
    rw [find_cons, find_cons] at hk
    by_cases hpk : p.1 = k
    · subst hpk
      have n1 : ∀ {m : List PairP}, (∀ r ∈ m, lessP p.1 r.1 = true) → findP m p.1 = none := fun {m} hm => find_none_of fun r hr e => by
        have := hm r hr
        rw [e, less_irrefl] at this
        cases this
      rw [n1 a1, n1 b1]
    · rw [if_neg hpk, if_neg hpk] at hk
      exact hk
end Go.Proofs.YtcjmpkfcjcoobaaGreat
namespace Go.Proofs.YtcjmpkfcjcoobaaGreat

/-- A length's two bytes. -/
def two8 (n : Nat) : List UInt8 := [UInt8.ofNat (n / 256), UInt8.ofNat n]
def val2 (a b : UInt8) : Nat := a.toNat * 256 + b.toNat
theorem val_two {n : Nat} (h : n ≤ 65535) : val2 (UInt8.ofNat (n / 256)) (UInt8.ofNat n) = n := by
  unfold val2
  simp only [UInt8.toNat_ofNat']
  omega
/-- What a change tells as its value. -/
def Ch.says (c : Ch) : List UInt8 := if c.gone then [] else c.val
def Ch.norm (c : Ch) : Ch := ⟨c.key, c.says, c.gone⟩
def Ch.fits (c : Ch) : Prop := c.key.length ≤ 65535 ∧ c.val.length ≤ 65535
def printC (c : Ch) : List UInt8 := (if c.gone then 1 else 0) :: (two8 c.key.length ++ (two8 c.says.length ++ (c.key ++ c.says)))
def printL (l : List Ch) : List UInt8 := l.flatMap printC
theorem printC_len (c : Ch) : (printC c).length = 5 + c.key.length + c.says.length := by
  unfold printC two8
  simp
  omega
theorem says_fits {c : Ch} (h : c.fits) : c.says.length ≤ 65535 := by
  unfold Ch.says
  split
  · exact Nat.zero_le _
  · exact h.2
/-- The change at a text's head, and what is behind it. -/
def headL : List UInt8 → Option (Ch × List UInt8)
  | g :: k1 :: k2 :: v1 :: v2 :: r =>
    if 1 < g.toNat ∨ r.length < val2 k1 k2 + val2 v1 v2 ∨ (g = 1 ∧ 0 < val2 v1 v2) then none
    else some (⟨r.take (val2 k1 k2), (r.drop (val2 k1 k2)).take (val2 v1 v2), g == 1⟩, r.drop (val2 k1 k2 + val2 v1 v2))
  | _ => none
theorem head_less {s r : List UInt8} {c : Ch} (h : headL s = some (c, r)) : r.length < s.length := by
  unfold headL at h
  split at h
  · split at h
    · cases h
    · simp only [Option.some.injEq, Prod.mk.injEq] at h
      rw [← h.2, List.length_drop]
      simp only [List.length_cons]
      omega
  · cases h
/-- The changes of which a text is the text. -/
def parseL : Nat → List UInt8 → Option (List Ch)
  | _, [] => some []
  | 0, _ :: _ => none
  | f + 1, b :: s =>
    match headL (b :: s) with
    | none => none
    | some (c, r) => (parseL f r).map (c :: ·)
theorem parse_fuel : ∀ (f f' : Nat) (s : List UInt8), s.length ≤ f → s.length ≤ f' → parseL f s = parseL f' s
  | _, _, [], _, _ => by
    rw [parseL.eq_def, parseL.eq_def]
  | 0, _, b :: s, h, _ => by simp at h
  | _ + 1, 0, b :: s, _, h => by simp at h
  | f + 1, f' + 1, b :: s, h, h' => by
    rw [parseL, parseL]
    cases hh : headL (b :: s) with
    | none => rfl
    | some p =>
      obtain ⟨c, r⟩ := p
      have := head_less hh
      simp only [List.length_cons] at h h' this
      show (parseL f r).map _ = (parseL f' r).map _
      rw [parse_fuel f f' r (by omega) (by omega)]
theorem head_print {c : Ch} (h : c.fits) (r : List UInt8) : headL (printC c ++ r) = some (c.norm, r) := by
  have hk := val_two h.1
  have hv := val_two (says_fits h)
  have hs : printC c ++ r = (if c.gone then 1 else 0) :: UInt8.ofNat (c.key.length / 256) :: UInt8.ofNat c.key.length :: UInt8.ofNat (c.says.length / 256) :: UInt8.ofNat c.says.length :: (c.key ++ (c.says ++ r)) := by
    unfold printC two8
    simp
  rw [hs]
  unfold headL
  simp only [hk, hv]
  have hlen : ¬ (c.key ++ (c.says ++ r)).length < c.key.length + c.says.length := by simp
  have hg : ¬ 1 < (if c.gone = true then (1 : UInt8) else 0).toNat := by split <;> decide
  have hz : ¬ ((if c.gone = true then (1 : UInt8) else 0) = 1 ∧ 0 < c.says.length) := by
    rintro ⟨h1, h2⟩
    by_cases hc : c.gone = true
    · unfold Ch.says at h2
      rw [if_pos hc] at h2
      cases h2
    · rw [if_neg hc] at h1
      cases h1
  have hn : ¬ (1 < (if c.gone = true then (1 : UInt8) else 0).toNat ∨ (c.key ++ (c.says ++ r)).length < c.key.length + c.says.length ∨ ((if c.gone = true then (1 : UInt8) else 0) = 1 ∧ 0 < c.says.length)) := by
    rintro (h1 | h1 | h1)
    · exact hg h1
    · exact hlen h1
    · exact hz h1
  rw [if_neg hn, List.take_left' rfl, List.drop_left' rfl, List.take_left' rfl, ← List.append_assoc, List.drop_left' (by rw [List.length_append])]
  have hgg : ((if c.gone = true then (1 : UInt8) else 0) == 1) = c.gone := by cases c.gone <;> rfl
  rw [hgg]
  rfl
/-- What was printed is parsed. -/
theorem parse_print : ∀ (l : List Ch), (∀ c ∈ l, c.fits) → ∀ f, (printL l).length ≤ f → parseL f (printL l) = some (l.map Ch.norm)
  | [], _, f, _ => by
    rw [parseL.eq_def]
    rfl
  | c :: l, hf, f, hl => by
    have hp : printL (c :: l) = printC c ++ printL l := List.flatMap_cons ..
    have hc := hf c (List.mem_cons_self ..)
    rw [hp] at hl ⊢
    have hlen := printC_len c
    rw [List.length_append] at hl
    obtain ⟨f', rfl⟩ : ∃ f', f = f' + 1 := ⟨f - 1, by omega⟩
    have hh := head_print hc (printL l)
    have ih := parse_print l (fun x hx => hf x (List.mem_cons_of_mem _ hx)) f' (by omega)
    cases hs : printC c ++ printL l with
    | nil =>
      have := congrArg List.length hs
      rw [List.length_append, List.length_nil] at this
      omega
    | cons b s =>
      rw [hs] at hh
      rw [parseL, hh]
      show (parseL f' (printL l)).map _ = _
      rw [ih]
      rfl
end Go.Proofs.YtcjmpkfcjcoobaaGreat
namespace Go.Proofs.YtcjmpkfcjcoobaaGreat

/-- Pairs behind changes. -/
def behindP (ps : List PairP) (l : List Ch) : List PairP := l.foldl (fun ps c => doneP c (!c.gone) ps) ps
/-- All of them, as changes. -/
def wholeP (ps : List PairP) : List Ch := ps.map fun p => ⟨p.1, p.2, false⟩
theorem behind_nil (ps : List PairP) : behindP ps [] = ps := rfl
theorem behind_cons (ps : List PairP) (c : Ch) (l : List Ch) : behindP ps (c :: l) = behindP (doneP c (!c.gone) ps) l := rfl
theorem behind_append (ps : List PairP) (l m : List Ch) : behindP ps (l ++ m) = behindP (behindP ps l) m := List.foldl_append ..
theorem behind_sorted : ∀ (l : List Ch) {ps : List PairP}, SortedP ps → SortedP (behindP ps l)
  | [], _, h => h
  | c :: l, ps, h => by
    rw [behind_cons]
    exact behind_sorted l (done_sorted c _ ps h)
theorem done_norm (c : Ch) (ps : List PairP) : doneP c.norm (!c.norm.gone) ps = doneP c (!c.gone) ps := by
  have hg : c.norm.gone = c.gone := rfl
  rw [hg]
  cases h : c.gone
  · have e : c.norm = c := by
      unfold Ch.norm Ch.says
      rw [h]
      cases c
      cases h
      rfl
    rw [e]
  · show doneP c.norm false ps = doneP c false ps
    rw [done_off, done_off]
    rfl
theorem behind_norm : ∀ (l : List Ch) (ps : List PairP), behindP ps (l.map Ch.norm) = behindP ps l
  | [], _ => rfl
  | c :: l, ps => by
    rw [List.map_cons, behind_cons, behind_cons, done_norm]
    exact behind_norm l _
/-- What is told of any key behind a change. -/
theorem find_done (c : Ch) {ps : List PairP} (h : SortedP ps) (k : KeyP) : findP (doneP c (!c.gone) ps) k = if k = c.key then (if c.gone then none else some c.val) else findP ps k := by
  by_cases hk : k = c.key
  · subst hk
    rw [if_pos rfl]
    cases hg : c.gone
    · exact find_done_self c ps h
    · exact find_done_gone c ps
  · rw [if_neg hk]
    exact find_done_other c hk _ ps
/-- A key that is greater than all comes last. -/
theorem done_last (c : Ch) : ∀ ps : List PairP, (∀ p ∈ ps, lessP p.1 c.key = true) → doneP c true ps = ps ++ [(c.key, c.val)]
  | [], _ => rfl
  | p :: ps, h => by
    have h1 := h p (List.mem_cons_self ..)
    have hl : lessP c.key p.1 = false := by
      cases hx : lessP c.key p.1
      · rfl
      · have := less_trans h1 hx
        rw [less_irrefl] at this
        cases this
    have hne : c.key ≠ p.1 := fun e => by
      rw [e, less_irrefl] at h1
      cases h1
    have hb : (c.key == p.1) = false := by simp [hne]
    unfold doneP
    rw [hl, hb, if_neg (by decide), if_neg (fun e => hne e.symm)]
    show [p] ++ doneP c true ps = _
    rw [done_last c ps fun q hq => h q (List.mem_cons_of_mem _ hq)]
    rfl
theorem behind_whole_from : ∀ (ps acc : List PairP), SortedP (acc ++ ps) → behindP acc (wholeP ps) = acc ++ ps
  | [], acc, _ => (List.append_nil acc).symm
  | p :: ps, acc, h => by
    show behindP (doneP ⟨p.1, p.2, false⟩ true acc) (wholeP ps) = _
    have hl : ∀ q ∈ acc, lessP q.1 p.1 = true := fun q hq => (List.pairwise_append.1 h).2.2 q hq p (List.mem_cons_self ..)
    rw [done_last ⟨p.1, p.2, false⟩ acc hl]
    have e : acc ++ [(p.1, p.2)] ++ ps = acc ++ p :: ps := by simp
    rw [← e]
    exact behind_whole_from ps (acc ++ [(p.1, p.2)]) (by rw [e]; exact h)
/-- The whole makes itself. -/
theorem behind_whole {ps : List PairP} (h : SortedP ps) : behindP [] (wholeP ps) = ps := behind_whole_from ps [] h

/-- How long the whole's text is. -/
def sizeP (ps : List PairP) : Nat := (ps.map fun p => 5 + p.1.length + p.2.length).sum
theorem size_cons (p : PairP) (ps : List PairP) : sizeP (p :: ps) = 5 + p.1.length + p.2.length + sizeP ps := rfl
theorem whole_len : ∀ ps : List PairP, (printL (wholeP ps)).length = sizeP ps
  | [] => rfl
  | p :: ps => by
    show (printC ⟨p.1, p.2, false⟩ ++ printL (wholeP ps)).length = _
    rw [List.length_append, printC_len, whole_len ps, size_cons]
    rfl
theorem size_done (c : Ch) : ∀ (t : Bool) (ps : List PairP), sizeP (doneP c t ps) ≤ sizeP ps + if t = true then 5 + c.key.length + c.val.length else 0
  | t, [] => by
    unfold doneP
    cases t
    · exact Nat.zero_le _
    · rw [if_pos rfl, if_pos rfl, size_cons]
      exact Nat.le_of_eq (Nat.add_comm ..)
  | t, p :: ps => by
    have ih := size_done c (t && !(lessP c.key p.1 || c.key == p.1)) ps
    unfold doneP
    obtain ⟨r, hr⟩ : ∃ r, doneP c (t && !(lessP c.key p.1 || c.key == p.1)) ps = r := ⟨_, rfl⟩
    rw [hr] at ih ⊢
    have hmid : sizeP ((if p.1 = c.key then [] else [p]) ++ r) ≤ 5 + p.1.length + p.2.length + sizeP r := by
      split
      · exact Nat.le_add_left ..
      · exact Nat.le_refl _
    rw [size_cons]
    have hff : ¬ (false = true) := Bool.false_ne_true
    cases t
    · simp only [Bool.false_and, if_neg hff, List.nil_append, Nat.add_zero] at ih ⊢
      omega
    · simp only [Bool.true_and, if_true] at ih ⊢
      cases hx : (lessP c.key p.1 || c.key == p.1)
      · rw [hx] at ih
        simp only [Bool.not_false, if_true] at ih
        rw [if_neg hff, List.nil_append]
        omega
      · rw [hx] at ih
        simp only [Bool.not_true, if_neg hff] at ih
        rw [if_pos rfl, List.singleton_append, size_cons]
        show 5 + c.key.length + c.val.length + _ ≤ _
        omega
/-- Behind changes the whole is no longer than it was, and their text. -/
theorem size_behind : ∀ (l : List Ch) (ps : List PairP), sizeP (behindP ps l) ≤ sizeP ps + (printL l).length
  | [], ps => Nat.le_add_right ..
  | c :: l, ps => by
    have h := size_done c (!c.gone) ps
    have ih := size_behind l (doneP c (!c.gone) ps)
    have hp : (printL (c :: l)).length = (printC c).length + (printL l).length := by
      rw [show printL (c :: l) = printC c ++ printL l from List.flatMap_cons .., List.length_append]
    rw [behind_cons, hp, printC_len]
    unfold Ch.says
    cases hg : c.gone
    · rw [hg] at h ih
      rw [if_neg (by decide)]
      rw [if_pos (by decide)] at h
      omega
    · rw [hg] at h ih
      rw [if_neg (by decide)] at h
      omega
theorem room_behind (l : List Ch) (ps : List PairP) : secN (sizeP (behindP ps l)) ≤ secN (sizeP ps) + secN (printL l).length :=
  Nat.le_trans (secN_mono (size_behind l ps)) (secN_add _ _)

/-- Keys and values that a text can tell. -/
def FitP (ps : List PairP) : Prop := ∀ p ∈ ps, p.1.length ≤ 65535 ∧ p.2.length ≤ 65535
theorem fit_whole {ps : List PairP} (h : FitP ps) : ∀ c ∈ wholeP ps, c.fits := fun c hc => by
  obtain ⟨p, hp, rfl⟩ := List.mem_map.1 hc
  exact h p hp
theorem fit_behind : ∀ (l : List Ch) {ps : List PairP}, FitP ps → (∀ c ∈ l, c.fits) → FitP (behindP ps l)
  | [], _, h, _ => h
  | c :: l, ps, h, hl => by
    rw [behind_cons]
    refine fit_behind l (fun p hp => ?_) fun x hx => hl x (List.mem_cons_of_mem _ hx)
    rcases done_mem c _ ps p hp with ⟨rfl, _⟩ | ⟨h1, _⟩
    · exact hl c (List.mem_cons_self ..)
    · exact h p h1
theorem whole_norm (ps : List PairP) : (wholeP ps).map Ch.norm = wholeP ps := by
  unfold wholeP
  rw [List.map_map]
  rfl

/-- What one text after the other tells. -/
def toldP (ts : List (List UInt8)) : Option (List PairP) := ts.foldl (fun a t => a.bind fun ps => (parseL t.length t).map (behindP ps)) (some [])
theorem told_more {ts : List (List UInt8)} {ps : List PairP} (h : toldP ts = some ps) {l : List Ch} (hl : ∀ c ∈ l, c.fits) : toldP (ts ++ [printL l]) = some (behindP ps l) := by
  unfold toldP at h ⊢
  rw [List.foldl_append, h]
  show (parseL (printL l).length (printL l)).map (behindP ps) = _
  rw [parse_print l hl _ (Nat.le_refl _)]
  exact congrArg some (behind_norm l ps)
/-- The whole's text tells the whole. -/
theorem told_whole {ps : List PairP} (h : SortedP ps) (hf : FitP ps) : toldP [printL (wholeP ps)] = some ps := by
  have := told_more (ts := []) (ps := []) rfl (fit_whole hf)
  rw [behind_whole h] at this
  exact this
end Go.Proofs.YtcjmpkfcjcoobaaGreat
namespace Go.Proofs.YtcjmpkfcjcoobaaGreat

/-- Sectors, with some written from the k-th on. -/
def wroteR (ss : List (List UInt8)) (k : Nat) (l : List (List UInt8)) : List (List UInt8) := ss.take k ++ (l ++ ss.drop (k + l.length))
theorem wroteR_nil (ss : List (List UInt8)) (k : Nat) : wroteR ss k [] = ss := List.take_append_drop k ss
theorem wroteR_len {ss : List (List UInt8)} {k : Nat} {l : List (List UInt8)} (h : k + l.length ≤ ss.length) : (wroteR ss k l).length = ss.length := by
  unfold wroteR
  rw [List.length_append, List.length_append, List.length_take, List.length_drop]
  omega
/-- .. and the one ahead of them. -/
theorem wroteR_set {ss : List (List UInt8)} {k : Nat} {l : List (List UInt8)} (h : k < ss.length) (x : List UInt8) : (wroteR ss (k + 1) l).set k x = wroteR ss k (x :: l) := by
  unfold wroteR
  have ht : (ss.take (k + 1)).length = k + 1 := by rw [List.length_take]; omega
  rw [List.set_append_left _ _ (by omega)]
  have e : (ss.take (k + 1)).set k x = ss.take k ++ [x] := by
    rw [List.take_succ_eq_append_getElem h, List.set_append_right _ _ (by rw [List.length_take]; omega)]
    rw [List.length_take, Nat.min_eq_left (by omega), Nat.sub_self]
    rfl
  rw [e, List.append_assoc, List.singleton_append, List.cons_append, List.length_cons, Nat.add_right_comm, Nat.add_assoc]
/-- An empty sector. -/
abbrev emptyR : List UInt8 := List.replicate 64 0
section
variable (H : List UInt8 → List UInt8)
/-- How many sectors records of these texts take. -/
def usedR (ts : List (List UInt8)) : Nat := (ts.map fun t => secN t.length).sum
theorem used_append (ts us : List (List UInt8)) : usedR (ts ++ us) = usedR ts + usedR us := by
  unfold usedR
  rw [List.map_append, List.sum_append]
theorem row_len (gen : Nat) : ∀ (num : Nat) (ts : List (List UInt8)), (rowR H gen num ts).length = usedR ts
  | _, [] => rfl
  | num, t :: ts => by
    show (laidR H gen num t ++ rowR H gen (num + 1) ts).length = secN t.length + usedR ts
    rw [List.length_append, laid_len, row_len gen (num + 1) ts]
theorem row_append (gen : Nat) (t : List UInt8) : ∀ (num : Nat) (ts : List (List UInt8)), rowR H gen num (ts ++ [t]) = rowR H gen num ts ++ laidR H gen (num + ts.length) t
  | num, [] => List.append_nil _
  | num, s :: ts => by
    show laidR H gen num s ++ rowR H gen (num + 1) (ts ++ [t]) = (laidR H gen num s ++ rowR H gen (num + 1) ts) ++ _
    rw [row_append gen t (num + 1) ts, List.append_assoc, List.length_cons, Nat.add_right_comm, Nat.add_assoc]
/-- A half that holds records of these texts, of one generation, and behind them none. -/
def HalfR (ss : List (List UInt8)) (gen : Nat) (ts : List (List UInt8)) : Prop := ∃ more, ss = rowR H gen 0 ts ++ more ∧ readR H more = none
/-- A half, with a record laid behind so many sectors. -/
def layR (ss : List (List UInt8)) (used gen num : Nat) (t : List UInt8) : List (List UInt8) :=
  wroteR (if used + secN t.length < ss.length then ss.set (used + secN t.length) emptyR else ss) used (laidR H gen num t)
theorem read_nil : readR H [] = none := rfl
theorem lay_len {ss : List (List UInt8)} {used gen num : Nat} {t : List UInt8} (h : used + secN t.length ≤ ss.length) : (layR H ss used gen num t).length = ss.length := by
  unfold layR
  have e : (if used + secN t.length < ss.length then ss.set (used + secN t.length) emptyR else ss).length = ss.length := by
    split
    · exact List.length_set ..
    · rfl
  rw [wroteR_len (by rw [laid_len, e]; exact h), e]
/-- A record laid behind the others. -/
theorem lay_half {ss more : List (List UInt8)} {gen : Nat} {ts : List (List UInt8)} {t : List UInt8} (hs : ss = rowR H gen 0 ts ++ more) (h : usedR ts + secN t.length ≤ ss.length) :
    HalfR H (layR H ss (usedR ts) gen ts.length t) gen (ts ++ [t]) := by
  have hr := row_len H gen 0 ts
  have hn := laid_len H gen ts.length t
  have e : ∀ ss' : List (List UInt8), ss'.take (usedR ts) = rowR H gen 0 ts → wroteR ss' (usedR ts) (laidR H gen ts.length t) = rowR H gen 0 (ts ++ [t]) ++ ss'.drop (usedR ts + secN t.length) := fun ss' ht => by
    unfold wroteR
    rw [ht, hn, row_append, Nat.zero_add, List.append_assoc]
  have ht0 : ss.take (usedR ts) = rowR H gen 0 ts := by
    rw [hs]
    exact List.take_left' hr
  unfold layR
  by_cases hb : usedR ts + secN t.length < ss.length
  · rw [if_pos hb, e _ (by rw [List.take_set_of_le (by omega)]; exact ht0)]
    refine ⟨_, rfl, ?_⟩
    have hd : (ss.set (usedR ts + secN t.length) emptyR).drop (usedR ts + secN t.length) = emptyR :: ss.drop (usedR ts + secN t.length + 1) := by
      rw [List.set_eq_take_append_cons_drop, if_pos hb, List.drop_left' (by rw [List.length_take]; omega)]
    rw [hd]
    exact read_empty H _
  · rw [if_neg hb, e _ ht0]
    refine ⟨_, rfl, ?_⟩
    rw [List.drop_eq_nil_of_le (by omega)]
    exact read_nil H
theorem lay_first {ss : List (List UInt8)} {gen : Nat} {t : List UInt8} (h : secN t.length ≤ ss.length) : HalfR H (layR H ss 0 gen 0 t) gen [t] :=
  lay_half H (ts := []) (more := ss) rfl (by show 0 + _ ≤ _; omega)
variable (hH : ∀ l, (H l).length = 32)
include hH in
/-- What a half tells. -/
theorem half_head {ss : List (List UInt8)} {gen : Nat} {t : List UInt8} {ts : List (List UInt8)} (hg : gen < 4294967296) (ht : t.length < 4294967296) (h : HalfR H ss gen (t :: ts)) : readR H ss = some (gen, 0, t) := by
  obtain ⟨more, rfl, _⟩ := h
  show readR H ((laidR H gen 0 t ++ rowR H gen 1 ts) ++ more) = _
  rw [List.append_assoc]
  exact read_laid H hH hg (by decide) ht _
include hH in
theorem half_tell {ss : List (List UInt8)} {gen : Nat} {ts : List (List UInt8)} (hg : gen < 4294967296) (ht : ∀ t ∈ ts, t.length < 4294967296) (h : HalfR H ss gen ts) {f : Nat} (hn : ts.length ≤ 4294967296) (hf : ts.length ≤ f) : tellR H gen f 0 ss = ts := by
  obtain ⟨more, rfl, hm⟩ := h
  exact tell_row H hH hg hm ts 0 f ht (by omega) hf
/-- Records are no more than their sectors. -/
theorem count_used : ∀ ts : List (List UInt8), ts.length ≤ usedR ts
  | [] => Nat.le_refl _
  | t :: ts => by
    have h1 := count_used ts
    have h2 := secN_pos t.length
    show ts.length + 1 ≤ secN t.length + usedR ts
    omega
theorem used_half {ss : List (List UInt8)} {gen : Nat} {ts : List (List UInt8)} (h : HalfR H ss gen ts) : usedR ts ≤ ss.length := by
  obtain ⟨more, rfl, _⟩ := h
  rw [List.length_append, row_len]
  exact Nat.le_add_right ..
/-- A half that isn't used: nothing whole at its beginning, or of an elder generation. -/
def OldR (ss : List (List UInt8)) (gen : Nat) : Prop := readR H ss = none ∨ ∃ g t, readR H ss = some (g, 0, t) ∧ g < gen
theorem old_empty (ss : List (List UInt8)) (gen : Nat) : OldR H (emptyR :: ss) gen := .inl (read_empty H ss)
include hH in
theorem old_half {ss : List (List UInt8)} {g gen : Nat} {t : List UInt8} {ts : List (List UInt8)} (hg : g < 4294967296) (ht : t.length < 4294967296) (h : HalfR H ss g (t :: ts)) (hl : g < gen) : OldR H ss gen :=
  .inr ⟨g, t, half_head H hH hg ht h, hl⟩
end
end Go.Proofs.YtcjmpkfcjcoobaaGreat
namespace Go.Proofs.YtcjmpkfcjcoobaaGreat

section
variable (H : List UInt8 → List UInt8)
/-- A store of pairs ps on halves of h sectors: su is used, of a generation, with records of these texts; so isn't. -/
structure GoodR (h gen : Nat) (ts : List (List UInt8)) (ps : List PairP) (su so : List (List UInt8)) : Prop where
  lenU : su.length = h
  lenO : so.length = h
  some : ts ≠ []
  half : HalfR H su gen ts
  old : OldR H so gen
  told : toldP ts = Option.some ps
  sorted : SortedP ps
  fit : FitP ps
  room : secN (sizeP ps) ≤ usedR ts
variable {H} {h gen : Nat} {ts : List (List UInt8)} {ps : List PairP} {su so : List (List UInt8)}
theorem GoodR.used (hg : GoodR H h gen ts ps su so) : usedR ts ≤ h := by
  rw [← hg.lenU]
  exact used_half H hg.half
/-- A text that goes into sectors is no longer than they. -/
theorem sec_len {n h : Nat} (hn : secN n ≤ h) : n ≤ 64 * h := by
  unfold secN at hn
  omega
theorem mem_used {t : List UInt8} : ∀ {ts : List (List UInt8)}, t ∈ ts → secN t.length ≤ usedR ts
  | s :: ts, ht => by
    show _ ≤ secN s.length + usedR ts
    rcases List.mem_cons.1 ht with rfl | ht
    · exact Nat.le_add_right ..
    · exact Nat.le_trans (mem_used ht) (Nat.le_add_left ..)
theorem GoodR.texts (hg : GoodR H h gen ts ps su so) (hh : h ≤ 1000000) : ∀ t ∈ ts, t.length < 4294967296 := fun t ht => by
  have h1 := sec_len (Nat.le_trans (mem_used ht) hg.used)
  omega
/-- A new store. -/
theorem good_make {a b : List (List UInt8)} (ha : a.length = h) (hb : b.length = h) (hp : 2 ≤ h) : GoodR H h 1 [[]] [] (layR H (a.set 0 emptyR) 0 1 0 []) (b.set 0 emptyR) := by
  have hl : (a.set 0 emptyR).length = h := by rw [List.length_set, ha]
  have hs : secN ([] : List UInt8).length = 1 := rfl
  refine ⟨?_, by rw [List.length_set, hb], by simp, lay_first H (by rw [hs, hl]; omega), ?_, rfl, List.Pairwise.nil, fun p hp => (by cases hp), Nat.le_refl _⟩
  · rw [lay_len H (by rw [hs, hl]; omega), hl]
  · cases b with
    | nil => rw [List.length_nil] at hb; omega
    | cons x b => exact old_empty H b 1
/-- A commit that stays in its half. -/
theorem GoodR.stays (hg : GoodR H h gen ts ps su so) {l : List Ch} (hl : ∀ c ∈ l, c.fits) (hr : usedR ts + secN (printL l).length ≤ h) :
    GoodR H h gen (ts ++ [printL l]) (behindP ps l) (layR H su (usedR ts) gen ts.length (printL l)) so := by
  obtain ⟨more, hs, _⟩ := hg.half
  have hr' : usedR ts + secN (printL l).length ≤ su.length := by rw [hg.lenU]; exact hr
  refine ⟨(lay_len H hr').trans hg.lenU, hg.lenO, by simp, lay_half H hs hr', hg.old, told_more hg.told hl, behind_sorted l hg.sorted, fit_behind l hg.fit hl, ?_⟩
  have := room_behind l ps
  have h2 := hg.room
  rw [used_append]
  show _ ≤ usedR ts + (secN (printL l).length + 0)
  omega
variable (hH : ∀ l, (H l).length = 32)
include hH in
/-- One that goes over. -/
theorem GoodR.goes (hg : GoodR H h gen ts ps su so) (hn : gen < 4294967295) (hh : h ≤ 1000000) {l : List Ch} (hl : ∀ c ∈ l, c.fits) (hr : secN (sizeP (behindP ps l)) ≤ h) :
    GoodR H h (gen + 1) [printL (wholeP (behindP ps l))] (behindP ps l) (layR H (so.set 0 emptyR) 0 (gen + 1) 0 (printL (wholeP (behindP ps l)))) su := by
  have hs := behind_sorted l hg.sorted
  have hf := fit_behind l hg.fit hl
  have hr' : 0 + secN (printL (wholeP (behindP ps l))).length ≤ (so.set 0 emptyR).length := by
    rw [whole_len, List.length_set, hg.lenO]
    omega
  refine ⟨?_, hg.lenU, by simp, lay_first H (by omega), ?_, told_whole hs hf, hs, hf, ?_⟩
  · rw [lay_len H hr', List.length_set, hg.lenO]
  · have ht := hg.texts hh
    have hhalf := hg.half
    cases hts : ts with
    | nil => exact absurd hts hg.some
    | cons t ts' =>
      rw [hts] at ht hhalf
      exact old_half H hH (by omega) (ht t (List.mem_cons_self ..)) hhalf (by omega)
  · show _ ≤ secN (printL (wholeP (behindP ps l))).length + 0
    rw [whole_len]
    exact Nat.le_refl _
include hH in
/-- What a store tells, opened again. -/
theorem GoodR.opens (hg : GoodR H h gen ts ps su so) (hn : gen < 4294967296) (hh : h ≤ 1000000) {f : Nat} (hf : h ≤ f) : (∃ t, readR H su = Option.some (gen, 0, t)) ∧ tellR H gen f 0 su = ts := by
  have ht := hg.texts hh
  have hhalf := hg.half
  have hu := hg.used
  have hc := count_used ts
  refine ⟨?_, half_tell H hH hn ht hhalf (by omega) (by omega)⟩
  cases hts : ts with
  | nil => exact absurd hts hg.some
  | cons t ts' =>
    rw [hts] at ht hhalf
    exact ⟨t, half_head H hH hn (ht t (List.mem_cons_self ..)) hhalf⟩
/-- What is in a store can be laid again .. -/
theorem behind_same {ps : List PairP} (hs : SortedP ps) {k : KeyP} {v : List UInt8} (hk : findP ps k = Option.some v) : behindP ps [⟨k, v, false⟩] = ps := by
  refine sorted_ext (behind_sorted _ hs) hs fun x => ?_
  show findP (doneP ⟨k, v, false⟩ (!false) ps) x = findP ps x
  rw [find_done ⟨k, v, false⟩ hs x]
  split
  · rename_i h
    rw [h]
    exact hk.symm
  · rfl
/-- .. and can go. -/
theorem size_gone (k : KeyP) (v : List UInt8) (ps : List PairP) : sizeP (behindP ps [⟨k, v, true⟩]) ≤ sizeP ps := size_done ⟨k, v, true⟩ false ps
theorem GoodR.room_same (hg : GoodR H h gen ts ps su so) {k : KeyP} {v : List UInt8} (hk : findP ps k = Option.some v) : secN (sizeP (behindP ps [⟨k, v, false⟩])) ≤ h := by
  rw [behind_same hg.sorted hk]
  exact Nat.le_trans hg.room hg.used
theorem GoodR.room_gone (hg : GoodR H h gen ts ps su so) (k : KeyP) (v : List UInt8) : secN (sizeP (behindP ps [⟨k, v, true⟩])) ≤ h :=
  Nat.le_trans (secN_mono (size_gone k v ps)) (Nat.le_trans hg.room hg.used)
end
/-- The document's commit: how many sectors are taken, the pairs, and whether it was taken. -/
def commitP (h : Nat) (s : Nat × List PairP) (l : List Ch) : (Nat × List PairP) × Int :=
  if ¬ (∀ c ∈ l, c.key.length ≤ 65535 ∧ c.val.length ≤ 65535) then (s, 3)
  else if l = [] then (s, 0)
  else if s.1 + secN (printL l).length ≤ h then ((s.1 + secN (printL l).length, behindP s.2 l), 0)
  else if secN (sizeP (behindP s.2 l)) ≤ h then ((secN (sizeP (behindP s.2 l)), behindP s.2 l), 0)
  else (s, 5)
/-- Keys that begin so. -/
def keysP (ps : List PairP) (pre : KeyP) : List KeyP := (ps.map (·.1)).filter fun k => k.take pre.length == pre
end Go.Proofs.YtcjmpkfcjcoobaaGreat
