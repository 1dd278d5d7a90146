/-
  Texts of this proof, put together: W8R.
-/
import Derived.Lib.Strings
namespace Go.Proofs.YtgpdplffljidbaaGreatDoor

def be4 (n : Nat) : List UInt8 := [UInt8.ofNat (n / 16777216), UInt8.ofNat (n / 65536), UInt8.ofNat (n / 256), UInt8.ofNat n]
def val4 : List UInt8 → Nat
  | [a, b, c, d] => ((a.toNat * 256 + b.toNat) * 256 + c.toNat) * 256 + d.toNat
  | _ => 0
theorem be4_len (n : Nat) : (be4 n).length = 4 := rfl
theorem val_be4 {n : Nat} (h : n < 4294967296) : val4 (be4 n) = n := by
  unfold be4 val4
  simp only [UInt8.toNat_ofNat']
  omega
def secN (n : Nat) : Nat := (14 + n + 32 + 1 + 63) / 64
theorem secN_pos (n : Nat) : 1 ≤ secN n := by unfold secN; omega
theorem secN_add (a b : Nat) : secN (a + b) ≤ secN a + secN b := by unfold secN; omega
theorem secN_mono {a b : Nat} (h : a ≤ b) : secN a ≤ secN b := by unfold secN; omega
section
variable (H : List UInt8 → List UInt8)
def headR (gen num : Nat) (t : List UInt8) : List UInt8 := [77, 71] ++ be4 gen ++ be4 num ++ be4 t.length ++ t
def recR (gen num : Nat) (t : List UInt8) : List UInt8 := headR gen num t ++ H (headR gen num t)
theorem head_len (gen num : Nat) (t : List UInt8) : (headR gen num t).length = 14 + t.length := by
  unfold headR
  simp [be4_len]
  omega
variable (hH : ∀ l, (H l).length = 32)
include hH in
theorem rec_len (gen num : Nat) (t : List UInt8) : (recR H gen num t).length = 46 + t.length := by
  unfold recR
  rw [List.length_append, head_len, hH]
  omega
def padR (k : Nat) (l : List UInt8) : List UInt8 := l ++ List.replicate (k - l.length) 0
theorem pad_len {k : Nat} {l : List UInt8} (h : l.length ≤ k) : (padR k l).length = k := by
  unfold padR
  rw [List.length_append, List.length_replicate]
  omega
theorem pad_take (k : Nat) (l : List UInt8) : (padR k l).take l.length = l := by
  unfold padR
  exact List.take_left' rfl
def cutR : Nat → List UInt8 → List (List UInt8)
  | 0, _ => []
  | n + 1, l => padR 64 (l.take 64) :: cutR n (l.drop 64)
theorem cut_len : ∀ (n : Nat) (l : List UInt8), (cutR n l).length = n
  | 0, _ => rfl
  | n + 1, l => by rw [cutR, List.length_cons, cut_len n]
theorem cut_flat : ∀ (n : Nat) (l : List UInt8), l.length ≤ 64 * n → (cutR n l).flatten.take l.length = l
  | 0, l, h => by
    obtain rfl : l = [] := List.eq_nil_of_length_eq_zero (by omega)
    rfl
  | n + 1, l, h => by
    rw [cutR, List.flatten_cons]
    by_cases h64 : l.length ≤ 64
    · rw [List.take_append_of_le_length (by rw [pad_len (by rw [List.length_take]; omega)]; exact h64), List.take_of_length_le h64]
      exact pad_take 64 l
    · have ht : (l.take 64).length = 64 := by rw [List.length_take]; omega
      have hp : padR 64 (l.take 64) = l.take 64 := by
        unfold padR
        rw [ht]
        simp
      have ih := cut_flat n (l.drop 64) (by rw [List.length_drop]; omega)
      rw [List.length_drop] at ih
      rw [hp, List.take_append, ht, List.take_of_length_le (by omega), ih, List.take_append_drop]
def laidR (gen num : Nat) (t : List UInt8) : List (List UInt8) :=
  (padR 63 ((recR H gen num t).take 63) ++ [77]) :: cutR (secN t.length - 1) ((recR H gen num t).drop 63)
theorem laid_len (gen num : Nat) (t : List UInt8) : (laidR H gen num t).length = secN t.length := by
  have := secN_pos t.length
  unfold laidR
  rw [List.length_cons, cut_len]
  omega
def bytesR (n : Nat) : List (List UInt8) → List UInt8
  | [] => []
  | s :: ss => s.take 63 ++ (ss.take (n - 1)).flatten
def readR : List (List UInt8) → Option (Nat × Nat × List UInt8)
  | [] => none
  | s :: ss =>
    let n := val4 ((s.drop 10).take 4)
    let b := bytesR (secN n) (s :: ss)
    if s.getD 63 0 = 77 ∧ s.take 2 = [77, 71] ∧ secN n ≤ ss.length + 1 ∧ (b.drop (14 + n)).take 32 = H (b.take (14 + n)) then some (val4 ((s.drop 2).take 4), val4 ((s.drop 6).take 4), (b.drop 14).take n) else none
include hH in
theorem read_laid {gen num : Nat} {t : List UInt8} (hg : gen < 4294967296) (hn : num < 4294967296) (ht : t.length < 4294967296) (more : List (List UInt8)) :
    readR H (laidR H gen num t ++ more) = some (gen, num, t) := by
  have hl := rec_len H hH gen num t
  have hs := secN_pos t.length
  obtain ⟨r, hr⟩ : ∃ r, recR H gen num t = r := ⟨_, rfl⟩
  have h63 : (padR 63 (r.take 63)).length = 63 := pad_len (by rw [List.length_take]; omega)
  have hhead : r.take (14 + t.length) = headR gen num t := by
    rw [← hr]
    unfold recR
    exact List.take_left' (head_len gen num t)
  have hdig : r.drop (14 + t.length) = H (headR gen num t) := by
    rw [← hr]
    unfold recR
    exact List.drop_left' (head_len gen num t)
  have hr46 : 46 ≤ r.length := by rw [← hr, hl]; omega
  -- the first bytes of the first sector are the record's
  have hfirst : ∀ k, k ≤ 46 → (padR 63 (r.take 63) ++ [77]).take k = r.take k := fun k hk => by
    rw [List.take_append_of_le_length (by omega)]
    unfold padR
    rw [List.take_append_of_le_length (by rw [List.length_take]; omega), List.take_take, Nat.min_eq_left (by omega)]
  have hfield : ∀ a, a + 4 ≤ 14 → ((padR 63 (r.take 63) ++ [77]).drop a).take 4 = ((headR gen num t).drop a).take 4 := fun a ha => by
    rw [List.take_drop, List.take_drop, hfirst _ (by omega), ← hhead, List.take_take, Nat.min_eq_left (by omega)]
  have e2 : (padR 63 (r.take 63) ++ [77]).take 2 = [77, 71] := by
    have h : (headR gen num t).take 2 = [77, 71] := rfl
    rw [hfirst 2 (by omega), ← h, ← hhead, List.take_take, Nat.min_eq_left (by omega)]
  have ef : ∀ (a : Nat) (x : List UInt8), a + 4 ≤ 14 → ((headR gen num t).drop a).take 4 = x → ((padR 63 (r.take 63) ++ [77]).drop a).take 4 = x := fun a x ha h => (hfield a ha).trans h
  have e3 := ef 2 (be4 gen) (by omega) rfl
  have e6 := ef 6 (be4 num) (by omega) rfl
  have e10 := ef 10 (be4 t.length) (by omega) rfl
  have em : (padR 63 (r.take 63) ++ [77]).getD 63 0 = 77 := by
    rw [List.getD_eq_getElem?_getD, List.getElem?_append_right (by omega), h63]
    rfl
  -- the bytes
  have hb : (bytesR (secN t.length) ((padR 63 (r.take 63) ++ [77]) :: (cutR (secN t.length - 1) (r.drop 63) ++ more))).take r.length = r := by
    show ((padR 63 (r.take 63) ++ [77]).take 63 ++ ((cutR (secN t.length - 1) (r.drop 63) ++ more).take (secN t.length - 1)).flatten).take r.length = r
    rw [List.take_left' h63, List.take_left' (cut_len _ _)]
    by_cases h : r.length ≤ 63
    · rw [List.take_append_of_le_length (by omega)]
      have h1 : r.take 63 = r := List.take_of_length_le h
      rw [h1]
      exact pad_take 63 r
    · have ht63 : (r.take 63).length = 63 := by rw [List.length_take]; omega
      have hp : padR 63 (r.take 63) = r.take 63 := by
        unfold padR
        rw [ht63]
        simp
      have hc := cut_flat (secN t.length - 1) (r.drop 63) (by
        rw [List.length_drop, ← hr, hl]
        unfold secN
        omega)
      rw [List.length_drop] at hc
      rw [hp, List.take_append, ht63, List.take_of_length_le (by omega), hc, List.take_append_drop]
  obtain ⟨b, hbb⟩ : ∃ b, bytesR (secN t.length) ((padR 63 (r.take 63) ++ [77]) :: (cutR (secN t.length - 1) (r.drop 63) ++ more)) = b := ⟨_, rfl⟩
  rw [hbb] at hb
  have hrl : r.length = 46 + t.length := by rw [← hr, hl]
  have hb1 : b.take (14 + t.length) = headR gen num t := by
    rw [← hhead, ← hb, List.take_take, Nat.min_eq_left (by omega)]
  have hb2 : (b.drop (14 + t.length)).take 32 = H (headR gen num t) := by
    rw [← hdig]
    conv => rhs; rw [← hb]
    rw [List.drop_take, show r.length - (14 + t.length) = 32 by omega]
  have hb3 : (b.drop 14).take t.length = t := by
    have e : (headR gen num t).drop 14 = t := rfl
    conv => rhs; rw [← e, ← hb1]
    rw [List.drop_take, show 14 + t.length - 14 = t.length by omega]
  unfold laidR
  rw [hr, List.cons_append]
  unfold readR
  simp only [e10, val_be4 ht, hbb, e3, e6, val_be4 hg, val_be4 hn, hb1, hb2, hb3, em, e2]
  rw [if_pos ⟨trivial, trivial, by rw [List.length_append, cut_len]; omega, trivial⟩]
theorem read_empty (ss : List (List UInt8)) : readR H (List.replicate 64 0 :: ss) = none := by
  unfold readR
  simp only
  rw [if_neg (fun h => absurd h.1 (by decide))]
def rowR (gen : Nat) : Nat → List (List UInt8) → List (List UInt8)
  | _, [] => []
  | num, t :: ts => laidR H gen num t ++ rowR gen (num + 1) ts
def tellR (gen : Nat) : Nat → Nat → List (List UInt8) → List (List UInt8)
  | 0, _, _ => []
  | f + 1, num, ss =>
    match readR H ss with
    | some (g, m, t) => if g = gen ∧ m = num then t :: tellR gen f (num + 1) (ss.drop (secN t.length)) else []
    | none => []
include hH in
theorem tell_row {gen : Nat} (hg : gen < 4294967296) {more : List (List UInt8)} (hm : readR H more = none) : ∀ (ts : List (List UInt8)) (num f : Nat), (∀ t ∈ ts, t.length < 4294967296) → num + ts.length ≤ 4294967296 → ts.length ≤ f →
    tellR H gen f num (rowR H gen num ts ++ more) = ts
  | [], num, f, _, _, _ => by
    cases f with
    | zero => rfl
    | succ f =>
      show (match readR H more with | some (g, m, t) => _ | none => _) = _
      rw [hm]
  | t :: ts, num, 0, _, _, hf => by simp at hf
  | t :: ts, num, f + 1, ht, hn, hf => by
    simp only [List.length_cons] at hn hf
    have hr := read_laid H hH (t := t) hg (show num < 4294967296 by omega) (ht t (List.mem_cons_self ..)) (rowR H gen (num + 1) ts ++ more)
    have hd : (laidR H gen num t ++ (rowR H gen (num + 1) ts ++ more)).drop (secN t.length) = rowR H gen (num + 1) ts ++ more := List.drop_left' (laid_len H gen num t)
    have ih := tell_row hg hm ts (num + 1) f (fun x hx => ht x (List.mem_cons_of_mem _ hx)) (by omega) (by omega)
    have hrow : rowR H gen num (t :: ts) ++ more = laidR H gen num t ++ (rowR H gen (num + 1) ts ++ more) := by
      show (laidR H gen num t ++ rowR H gen (num + 1) ts) ++ more = _
      rw [List.append_assoc]
    rw [hrow]
    unfold tellR
    rw [hr]
    show (if gen = gen ∧ num = num then t :: tellR H gen f (num + 1) ((laidR H gen num t ++ (rowR H gen (num + 1) ts ++ more)).drop (secN t.length)) else []) = _
    rw [if_pos ⟨rfl, rfl⟩, hd, ih]
end
end Go.Proofs.YtgpdplffljidbaaGreatDoor
