/-
  Texts of this proof, put together: B64F, E64P, E64.
-/
import Derived.Lib.Hide
import Derived.Test.YtidlpdiephlkhaaGreatDoorZ04
import Derived.Test.YtidlpdiephlkhaaGreatDoorShelf
import Derived.Deep.QuietTactic
import Derived.Laws.BitsLemmas
namespace Go.Proofs.YtidlpdiephlkhaaGreatDoor

/-- A worth's letter. -/
def letterB (v : Nat) : UInt8 := if v < 26 then UInt8.ofNat (65 + v) else if v < 52 then UInt8.ofNat (71 + v) else if v < 62 then UInt8.ofNat (v - 4) else if v = 62 then 43 else 47
/-- A letter's worth. -/
def worthB (c : UInt8) : Option Nat :=
  if 65 ≤ c.toNat ∧ c.toNat ≤ 90 then some (c.toNat - 65) else if 97 ≤ c.toNat ∧ c.toNat ≤ 122 then some (c.toNat - 71) else if 48 ≤ c.toNat ∧ c.toNat ≤ 57 then some (c.toNat + 4) else if c.toNat = 43 then some 62 else if c.toNat = 47 then some 63 else none
theorem worth_letter : ∀ v : Nat, v < 64 → worthB (letterB v) = some v := by decide +kernel
theorem letter_all : ∀ n : Fin 256, (match worthB (UInt8.ofNat n) with | some v => decide (v < 64) && decide (letterB v = UInt8.ofNat n) | none => true) = true := by decide +kernel
theorem letter_worth {c : UInt8} {v : Nat} (h : worthB c = some v) : v < 64 ∧ letterB v = c := by
  have := letter_all ⟨c.toNat, c.toNat_lt⟩
  simp only [UInt8.ofNat_toNat, h, Bool.and_eq_true, decide_eq_true_eq] at this
  exact this
theorem letter_ne : ∀ v : Nat, v < 64 → letterB v ≠ 61 := by decide +kernel
theorem letter_end : ∀ v : Nat, v < 64 → letterB v ≠ 13 ∧ letterB v ≠ 10 := by decide +kernel
theorem worth_pad : worthB 61 = none := by decide +kernel

/-- The letters of bytes. -/
def encB : List UInt8 → List UInt8
  | [] => []
  | [a] => [letterB (a.toNat / 4), letterB (a.toNat % 4 * 16), 61, 61]
  | [a, b] => [letterB (a.toNat / 4), letterB (a.toNat % 4 * 16 + b.toNat / 16), letterB (b.toNat % 16 * 4), 61]
  | a :: b :: c :: r => letterB (a.toNat / 4) :: letterB (a.toNat % 4 * 16 + b.toNat / 16) :: letterB (b.toNat % 16 * 4 + c.toNat / 64) :: letterB (c.toNat % 64) :: encB r
/-- Four letters' three bytes. -/
def quadB (w x y z : UInt8) : Option (List UInt8) :=
  match worthB w, worthB x, worthB y, worthB z with
  | some p, some q, some r, some t => some [UInt8.ofNat (p * 4 + q / 16), UInt8.ofNat (q % 16 * 16 + r / 4), UInt8.ofNat (r % 4 * 64 + t)]
  | _, _, _, _ => none
/-- The last four letters' bytes. -/
def lastB (w x y z : UInt8) : Option (List UInt8) :=
  if z = 61 then
    (if y = 61 then
      (match worthB w, worthB x with
        | some p, some q => if q % 16 = 0 then some [UInt8.ofNat (p * 4 + q / 16)] else none
        | _, _ => none)
    else
      (match worthB w, worthB x, worthB y with
        | some p, some q, some r => if r % 4 = 0 then some [UInt8.ofNat (p * 4 + q / 16), UInt8.ofNat (q % 16 * 16 + r / 4)] else none
        | _, _, _ => none))
  else quadB w x y z
/-- The bytes of letters, or none. -/
def decB : List UInt8 → Option (List UInt8)
  | [] => some []
  | w :: x :: y :: z :: t => if t = [] then lastB w x y z else
      (match quadB w x y z, decB t with
        | some a, some r => some (a ++ r)
        | _, _ => none)
  | _ => none

theorem of_eq {a : UInt8} {n : Nat} (h : n = a.toNat) : UInt8.ofNat n = a := by rw [h, UInt8.ofNat_toNat]
theorem quad_enc (a b c : UInt8) : quadB (letterB (a.toNat / 4)) (letterB (a.toNat % 4 * 16 + b.toNat / 16)) (letterB (b.toNat % 16 * 4 + c.toNat / 64)) (letterB (c.toNat % 64)) = some [a, b, c] := by
  have ha := a.toNat_lt
  have hb := b.toNat_lt
  have hc := c.toNat_lt
  unfold quadB
  rw [worth_letter _ (by omega), worth_letter _ (by omega), worth_letter _ (by omega), worth_letter _ (by omega)]
  simp only
  rw [of_eq (a := a) (by omega), of_eq (a := b) (by omega), of_eq (a := c) (by omega)]
theorem last_one (a : UInt8) : lastB (letterB (a.toNat / 4)) (letterB (a.toNat % 4 * 16)) 61 61 = some [a] := by
  have ha := a.toNat_lt
  unfold lastB
  rw [if_pos rfl, if_pos rfl, worth_letter _ (by omega), worth_letter _ (by omega)]
  simp only
  rw [if_pos (by omega), of_eq (a := a) (by omega)]
theorem last_two (a b : UInt8) : lastB (letterB (a.toNat / 4)) (letterB (a.toNat % 4 * 16 + b.toNat / 16)) (letterB (b.toNat % 16 * 4)) 61 = some [a, b] := by
  have ha := a.toNat_lt
  have hb := b.toNat_lt
  unfold lastB
  rw [if_pos rfl, if_neg (letter_ne _ (by omega)), worth_letter _ (by omega), worth_letter _ (by omega), worth_letter _ (by omega)]
  simp only
  rw [if_pos (by omega), of_eq (a := a) (by omega), of_eq (a := b) (by omega)]
theorem last_three (a b c : UInt8) : lastB (letterB (a.toNat / 4)) (letterB (a.toNat % 4 * 16 + b.toNat / 16)) (letterB (b.toNat % 16 * 4 + c.toNat / 64)) (letterB (c.toNat % 64)) = some [a, b, c] := by
  unfold lastB
  rw [if_neg (letter_ne _ (by omega)), quad_enc]
theorem enc_ne {s : List UInt8} (h : s ≠ []) : encB s ≠ [] := by
  match s, h with
  | [_], _ => simp [encB]
  | [_, _], _ => simp [encB]
  | _ :: _ :: _ :: _, _ => simp [encB]
theorem enc_nil {s : List UInt8} (h : encB s = []) : s = [] := by
  cases s with
  | nil => rfl
  | cons a s => exact absurd h (enc_ne (by simp))
/-- WHAT WAS ENCODED IS DECODED. -/
theorem dec_enc : ∀ s : List UInt8, decB (encB s) = some s
  | [] => rfl
  | [a] => by rw [encB, decB, if_pos rfl, last_one]
  | [a, b] => by rw [encB, decB, if_pos rfl, last_two]
  | a :: b :: c :: r => by
    rw [encB, decB]
    by_cases h : encB r = []
    · have := enc_nil h
      subst this
      rw [if_pos h, last_three]
    · rw [if_neg h, quad_enc, dec_enc r]
      rfl
theorem quad_some {w x y z : UInt8} {l : List UInt8} (h : quadB w x y z = some l) : ∃ a b c : UInt8, l = [a, b, c] ∧ w = letterB (a.toNat / 4) ∧ x = letterB (a.toNat % 4 * 16 + b.toNat / 16) ∧ y = letterB (b.toNat % 16 * 4 + c.toNat / 64) ∧ z = letterB (c.toNat % 64) := by
  unfold quadB at h
  cases hw : worthB w with
  | none => simp [hw] at h
  | some p =>
    cases hx : worthB x with
    | none => simp [hw, hx] at h
    | some q =>
      cases hy : worthB y with
      | none => simp [hw, hx, hy] at h
      | some r =>
        cases hz : worthB z with
        | none => simp [hw, hx, hy, hz] at h
        | some t =>
          simp only [hw, hx, hy, hz, Option.some.injEq] at h
          obtain ⟨p1, p2⟩ := letter_worth hw
          obtain ⟨q1, q2⟩ := letter_worth hx
          obtain ⟨r1, r2⟩ := letter_worth hy
          obtain ⟨t1, t2⟩ := letter_worth hz
          have e1 : (UInt8.ofNat (p * 4 + q / 16)).toNat = p * 4 + q / 16 := UInt8.toNat_ofNat_of_lt' (by show _ < 256; omega)
          have e2 : (UInt8.ofNat (q % 16 * 16 + r / 4)).toNat = q % 16 * 16 + r / 4 := UInt8.toNat_ofNat_of_lt' (by show _ < 256; omega)
          have e3 : (UInt8.ofNat (r % 4 * 64 + t)).toNat = r % 4 * 64 + t := UInt8.toNat_ofNat_of_lt' (by show _ < 256; omega)
          refine ⟨_, _, _, h.symm, ?_, ?_, ?_, ?_⟩
          · rw [e1, ← p2]; congr 1; omega
          · rw [e1, e2, ← q2]; congr 1; omega
          · rw [e2, e3, ← r2]; congr 1; omega
          · rw [e3, ← t2]; congr 1; omega
theorem last_some {w x y z : UInt8} {l : List UInt8} (h : lastB w x y z = some l) : encB l = [w, x, y, z] := by
  unfold lastB at h
  by_cases hz : z = 61
  · rw [if_pos hz] at h
    by_cases hy : y = 61
    · rw [if_pos hy] at h
      cases hw : worthB w with
      | none => simp [hw] at h
      | some p =>
        cases hx : worthB x with
        | none => simp [hw, hx] at h
        | some q =>
          simp only [hw, hx] at h
          by_cases hq : q % 16 = 0
          · rw [if_pos hq, Option.some.injEq] at h
            obtain ⟨p1, p2⟩ := letter_worth hw
            obtain ⟨q1, q2⟩ := letter_worth hx
            have e1 : (UInt8.ofNat (p * 4 + q / 16)).toNat = p * 4 + q / 16 := UInt8.toNat_ofNat_of_lt' (by show _ < 256; omega)
            rw [← h, encB, e1, hy, hz, ← p2, ← q2]
            congr 2
            · congr 1; omega
            · congr 2; omega
          · rw [if_neg hq] at h; cases h
    · rw [if_neg hy] at h
      cases hw : worthB w with
      | none => simp [hw] at h
      | some p =>
        cases hx : worthB x with
        | none => simp [hw, hx] at h
        | some q =>
          cases hy2 : worthB y with
          | none => simp [hw, hx, hy2] at h
          | some r =>
            simp only [hw, hx, hy2] at h
            by_cases hq : r % 4 = 0
            · rw [if_pos hq, Option.some.injEq] at h
              obtain ⟨p1, p2⟩ := letter_worth hw
              obtain ⟨q1, q2⟩ := letter_worth hx
              obtain ⟨r1, r2⟩ := letter_worth hy2
              have e1 : (UInt8.ofNat (p * 4 + q / 16)).toNat = p * 4 + q / 16 := UInt8.toNat_ofNat_of_lt' (by show _ < 256; omega)
              have e2 : (UInt8.ofNat (q % 16 * 16 + r / 4)).toNat = q % 16 * 16 + r / 4 := UInt8.toNat_ofNat_of_lt' (by show _ < 256; omega)
              have f1 : (p * 4 + q / 16) / 4 = p := by omega
              have f2 : (p * 4 + q / 16) % 4 * 16 + (q % 16 * 16 + r / 4) / 16 = q := by omega
              have f3 : (q % 16 * 16 + r / 4) % 16 * 4 = r := by omega
              rw [← h, encB, e1, e2, f1, f2, f3, hz, p2, q2, r2]
            · rw [if_neg hq] at h; cases h
  · rw [if_neg hz] at h
    obtain ⟨a, b, c, rfl, rfl, rfl, rfl, rfl⟩ := quad_some h
    rfl
/-- WHAT IS DECODED WAS ENCODED JUST SO. -/
theorem enc_dec : ∀ (t s : List UInt8), decB t = some s → encB s = t
  | [], s, h => by
    rw [decB] at h
    cases h
    rfl
  | [_], s, h => by simp [decB] at h
  | [_, _], s, h => by simp [decB] at h
  | [_, _, _], s, h => by simp [decB] at h
  | w :: x :: y :: z :: t, s, h => by
    rw [decB] at h
    by_cases ht : t = []
    · rw [if_pos ht] at h
      rw [ht]
      exact last_some h
    · rw [if_neg ht] at h
      cases hq : quadB w x y z with
      | none => simp [hq] at h
      | some a =>
        cases hd : decB t with
        | none => simp [hq, hd] at h
        | some r =>
          simp only [hq, hd, Option.some.injEq] at h
          obtain ⟨a1, b1, c1, rfl, rfl, rfl, rfl, rfl⟩ := quad_some hq
          rw [← h]
          show encB (a1 :: b1 :: c1 :: r) = _
          rw [encB, enc_dec t r hd]
theorem enc_len : ∀ s : List UInt8, (encB s).length = (s.length + 2) / 3 * 4
  | [] => rfl
  | [_] => by simp [encB]
  | [_, _] => by simp [encB]
  | _ :: _ :: _ :: r => by
    rw [encB]
    simp only [List.length_cons, enc_len r]
    omega
theorem dec_len {t s : List UInt8} (h : decB t = some s) : t.length % 4 = 0 := by
  rw [← enc_dec t s h, enc_len]
  omega
/-- Letters of a multiple of three bytes go on. -/
theorem enc_append (t : List UInt8) : ∀ s : List UInt8, s.length % 3 = 0 → encB (s ++ t) = encB s ++ encB t
  | [], _ => rfl
  | [_], h => by simp at h
  | [_, _], h => by simp at h
  | a :: b :: c :: r, h => by
    have ih := enc_append t r (by simp at h; omega)
    rw [encB]
    show encB (a :: b :: c :: (r ++ t)) = _
    rw [encB, ih]
    rfl
/-- Is a byte a letter, or fills up? -/
def letterOk (c : UInt8) : Prop := c = 61 ∨ ∃ v, v < 64 ∧ c = letterB v
theorem enc_ok : ∀ s : List UInt8, ∀ c ∈ encB s, letterOk c
  | [], c, hc => by simp [encB] at hc
  | [a], c, hc => by
    have ha := a.toNat_lt
    simp only [encB, List.mem_cons, List.not_mem_nil, or_false] at hc
    rcases hc with rfl | rfl | rfl | rfl
    · exact .inr ⟨_, by omega, rfl⟩
    · exact .inr ⟨_, by omega, rfl⟩
    · exact .inl rfl
    · exact .inl rfl
  | [a, b], c, hc => by
    have ha := a.toNat_lt
    have hb := b.toNat_lt
    simp only [encB, List.mem_cons, List.not_mem_nil, or_false] at hc
    rcases hc with rfl | rfl | rfl | rfl
    · exact .inr ⟨_, by omega, rfl⟩
    · exact .inr ⟨_, by omega, rfl⟩
    · exact .inr ⟨_, by omega, rfl⟩
    · exact .inl rfl
  | a :: b :: d :: r, c, hc => by
    have ha := a.toNat_lt
    have hb := b.toNat_lt
    have hd := d.toNat_lt
    simp only [encB, List.mem_cons] at hc
    rcases hc with rfl | rfl | rfl | rfl | hc
    · exact .inr ⟨_, by omega, rfl⟩
    · exact .inr ⟨_, by omega, rfl⟩
    · exact .inr ⟨_, by omega, rfl⟩
    · exact .inr ⟨_, by omega, rfl⟩
    · exact enc_ok r c hc
theorem ok_end {c : UInt8} (h : letterOk c) : c ≠ 13 ∧ c ≠ 10 := by
  rcases h with rfl | ⟨v, hv, rfl⟩
  · decide
  · exact letter_end v hv
/-- Letters in lines of 76, each with an end. -/
def foldB (l : List UInt8) : List UInt8 := if _h : l = [] then [] else l.take 76 ++ (13 :: 10 :: foldB (l.drop 76))
termination_by l.length
decreasing_by
  have h0 : l ≠ [] := by assumption
  cases l with
  | nil => exact absurd rfl h0
  | cons a l => simp; omega
theorem fold_nil : foldB [] = [] := by rw [foldB]; simp
theorem fold_cons {l : List UInt8} (h : l ≠ []) : foldB l = l.take 76 ++ (13 :: 10 :: foldB (l.drop 76)) := by
  rw [foldB, dif_neg h]
theorem fold_len (l : List UInt8) : ∀ n, l.length = n → (foldB l).length = l.length + 2 * ((l.length + 75) / 76) := by
  intro n
  induction n using Nat.strongRecOn generalizing l with
  | ind n ih =>
    intro hn
    by_cases h : l = []
    · subst h
      rw [fold_nil]
      rfl
    · have hp : 0 < l.length := List.length_pos_iff.2 h
      rw [fold_cons h]
      simp only [List.length_append, List.length_take, List.length_cons]
      rw [ih (l.drop 76).length (by rw [List.length_drop]; omega) (l.drop 76) rfl, List.length_drop]
      omega
/-- Without its ends a folded text is its letters. -/
def plainB (t : List UInt8) : List UInt8 := t.filter fun c => decide (c ≠ 13 ∧ c ≠ 10)
theorem plain_id {l : List UInt8} (h : ∀ c ∈ l, c ≠ 13 ∧ c ≠ 10) : plainB l = l := by
  unfold plainB
  rw [List.filter_eq_self]
  intro c hc
  exact decide_eq_true (h c hc)
theorem plain_fold (l : List UInt8) : ∀ n, l.length = n → (∀ c ∈ l, c ≠ 13 ∧ c ≠ 10) → plainB (foldB l) = l := by
  intro n
  induction n using Nat.strongRecOn generalizing l with
  | ind n ih =>
    intro hn hl
    by_cases h : l = []
    · subst h
      rw [fold_nil]
      rfl
    · have hp : 0 < l.length := List.length_pos_iff.2 h
      have h1 := plain_id (l := l.take 76) (fun c hc => hl c (List.mem_of_mem_take hc))
      have h2 := ih (l.drop 76).length (by rw [List.length_drop]; omega) (l.drop 76) rfl (fun c hc => hl c (List.mem_of_mem_drop hc))
      rw [fold_cons h]
      unfold plainB at h1 h2 ⊢
      rw [List.filter_append, h1]
      have h3 : List.filter (fun c => decide (c ≠ 13 ∧ c ≠ 10)) (13 :: 10 :: foldB (l.drop 76)) = l.drop 76 := by
        rw [List.filter_cons_of_neg (by decide), List.filter_cons_of_neg (by decide), h2]
      rw [h3, List.take_append_drop]
/-- The bytes of folded letters, or none. -/
def unfoldB (t : List UInt8) : Option (List UInt8) :=
  match decB (plainB t) with
  | some s => if foldB (encB s) = t then some s else none
  | none => none
theorem unfold_fold (s : List UInt8) : unfoldB (foldB (encB s)) = some s := by
  unfold unfoldB
  rw [plain_fold (encB s) _ rfl (fun c hc => ok_end (enc_ok s c hc)), dec_enc]
  simp
theorem fold_unfold {t s : List UInt8} (h : unfoldB t = some s) : foldB (encB s) = t := by
  unfold unfoldB at h
  cases hd : decB (plainB t) with
  | none => simp [hd] at h
  | some r =>
    simp only [hd] at h
    by_cases he : foldB (encB r) = t
    · rw [if_pos he, Option.some.injEq] at h
      rw [← h]
      exact he
    · rw [if_neg he] at h
      cases h
end Go.Proofs.YtidlpdiephlkhaaGreatDoor
namespace Go.Proofs.YtidlpdiephlkhaaGreatDoor

/-- The number of up to three bytes' bits, the first one highest, of the first k of them. -/
def rowN (s : List UInt8) : Nat → Nat
  | 0 => 0
  | k + 1 => rowN s k + (s.getD k 0).toNat * 2 ^ (16 - 8 * k)
theorem row_0 (s : List UInt8) : rowN s 0 = 0 := rfl
theorem row_1 (s : List UInt8) : rowN s 1 = (s.getD 0 0).toNat * 65536 := by simp [rowN]
theorem row_2 (s : List UInt8) : rowN s 2 = (s.getD 0 0).toNat * 65536 + (s.getD 1 0).toNat * 256 := by
  rw [rowN, row_1]
theorem row_3 (s : List UInt8) : rowN s 3 = (s.getD 0 0).toNat * 65536 + (s.getD 1 0).toNat * 256 + (s.getD 2 0).toNat := by
  rw [rowN, row_2]
  simp
theorem row_lt (s : List UInt8) (k : Nat) (h : k ≤ 3) : rowN s k < 16777216 := by
  have h0 := (s.getD 0 0).toNat_lt
  have h1 := (s.getD 1 0).toNat_lt
  have h2 := (s.getD 2 0).toNat_lt
  rcases (by omega : k = 0 ∨ k = 1 ∨ k = 2 ∨ k = 3) with rfl | rfl | rfl | rfl
  · rw [row_0]; omega
  · rw [row_1]; omega
  · rw [row_2]; omega
  · rw [row_3]; omega
/-- What stands behind a multiple is put to it by 'or', too. -/
theorem or_add (a b i : Nat) (h : b < 2 ^ i) : (a * 2 ^ i) ||| b = a * 2 ^ i + b := by
  rw [Nat.mul_comm a, ← Nat.two_pow_add_eq_or_of_lt h]
theorem row_or (s : List UInt8) (k : Nat) (h : k < 3) : rowN s k ||| ((s.getD k 0).toNat * 2 ^ (16 - 8 * k)) = rowN s (k + 1) := by
  have h0 := (s.getD 0 0).toNat_lt
  have h1 := (s.getD 1 0).toNat_lt
  have h2 := (s.getD 2 0).toNat_lt
  rw [rowN]
  rcases (by omega : k = 0 ∨ k = 1 ∨ k = 2) with rfl | rfl | rfl
  · rw [row_0, Nat.zero_or, Nat.zero_add]
  · rw [row_1]
    have := or_add (s.getD 0 0).toNat ((s.getD 1 0).toNat * 256) 16 (by omega)
    simpa using this
  · rw [row_2]
    have := or_add ((s.getD 0 0).toNat * 256 + (s.getD 1 0).toNat) (s.getD 2 0).toNat 8 (by omega)
    have e : ((s.getD 0 0).toNat * 256 + (s.getD 1 0).toNat) * 2 ^ 8 = (s.getD 0 0).toNat * 65536 + (s.getD 1 0).toNat * 256 := by omega
    rw [e] at this
    simpa using this
/-- The letter at a place of one to three bytes' letters. -/
def rowL (s : List UInt8) (p : Nat) : UInt8 := if p > s.length then 61 else letterB (rowN s s.length / 2 ^ (18 - 6 * p) % 64)
theorem row_letters (s : List UInt8) (h1 : 1 ≤ s.length) (h3 : s.length ≤ 3) : encB s = [rowL s 0, rowL s 1, rowL s 2, rowL s 3] := by
  match s, h1, h3 with
  | [a], _, _ =>
    have ha := a.toNat_lt
    have e : rowN [a] [a].length = a.toNat * 65536 := row_1 [a]
    have l : [a].length = 1 := rfl
    unfold rowL
    rw [encB, e, l, if_neg (by omega), if_neg (by omega), if_pos (by omega), if_pos (by omega)]
    have e0 : a.toNat * 65536 / 2 ^ (18 - 6 * 0) % 64 = a.toNat / 4 := by simp only [Nat.mul_zero, Nat.sub_zero, Nat.reducePow]; omega
    have e1 : a.toNat * 65536 / 2 ^ (18 - 6 * 1) % 64 = a.toNat % 4 * 16 := by simp only [Nat.mul_one, Nat.reduceSub, Nat.reducePow]; omega
    rw [e0, e1]
  | [a, b], _, _ =>
    have ha := a.toNat_lt
    have hb := b.toNat_lt
    have e : rowN [a, b] [a, b].length = a.toNat * 65536 + b.toNat * 256 := row_2 [a, b]
    have l : [a, b].length = 2 := rfl
    unfold rowL
    rw [encB, e, l, if_neg (by omega), if_neg (by omega), if_neg (by omega), if_pos (by omega)]
    have e0 : (a.toNat * 65536 + b.toNat * 256) / 2 ^ (18 - 6 * 0) % 64 = a.toNat / 4 := by simp only [Nat.mul_zero, Nat.sub_zero, Nat.reducePow]; omega
    have e1 : (a.toNat * 65536 + b.toNat * 256) / 2 ^ (18 - 6 * 1) % 64 = a.toNat % 4 * 16 + b.toNat / 16 := by simp only [Nat.mul_one, Nat.reduceSub, Nat.reducePow]; omega
    have e2 : (a.toNat * 65536 + b.toNat * 256) / 2 ^ (18 - 6 * 2) % 64 = b.toNat % 16 * 4 := by simp only [Nat.reduceMul, Nat.reduceSub, Nat.reducePow]; omega
    rw [e0, e1, e2]
  | [a, b, c], _, _ =>
    have ha := a.toNat_lt
    have hb := b.toNat_lt
    have hc := c.toNat_lt
    have e : rowN [a, b, c] [a, b, c].length = a.toNat * 65536 + b.toNat * 256 + c.toNat := row_3 [a, b, c]
    have l : [a, b, c].length = 3 := rfl
    unfold rowL
    rw [encB, e, l, if_neg (by omega), if_neg (by omega), if_neg (by omega), if_neg (by omega), encB]
    have e0 : (a.toNat * 65536 + b.toNat * 256 + c.toNat) / 2 ^ (18 - 6 * 0) % 64 = a.toNat / 4 := by simp only [Nat.mul_zero, Nat.sub_zero, Nat.reducePow]; omega
    have e1 : (a.toNat * 65536 + b.toNat * 256 + c.toNat) / 2 ^ (18 - 6 * 1) % 64 = a.toNat % 4 * 16 + b.toNat / 16 := by simp only [Nat.mul_one, Nat.reduceSub, Nat.reducePow]; omega
    have e2 : (a.toNat * 65536 + b.toNat * 256 + c.toNat) / 2 ^ (18 - 6 * 2) % 64 = b.toNat % 16 * 4 + c.toNat / 64 := by simp only [Nat.reduceMul, Nat.reduceSub, Nat.reducePow]; omega
    have e3 : (a.toNat * 65536 + b.toNat * 256 + c.toNat) / 2 ^ (18 - 6 * 3) % 64 = c.toNat % 64 := by simp only [Nat.reduceMul, Nat.reduceSub, Nat.reducePow]; omega
    rw [e0, e1, e2, e3]
end Go.Proofs.YtidlpdiephlkhaaGreatDoor
namespace Go.Proofs.YtidlpdiephlkhaaGreatDoor
open Go.RowKit

theorem wraps_u32 (n : Int) (h0 : 0 ≤ n) (h1 : n < 2 ^ 32) : IntKind.u32.wrap n = n := by rw [IntKind.wrap_u32]; omega
theorem or_u32 (a b : Nat) (ha : a < 2 ^ 32) (hb : b < 2 ^ 32) : bits .or .u32 (a : Int) (b : Int) = ((a ||| b : Nat) : Int) := (bits_nat .u32 32 (by decide) wraps_u32 a b ha hb).2
theorem mask_u32 (a i : Nat) (ha : a < 2 ^ 32) (hi : i ≤ 32) : bits .and .u32 (a : Int) (2 ^ i - 1) = ((a % 2 ^ i : Nat) : Int) := by
  rw [bits_mask .u32 32 (by decide) wraps_u32 i hi a (Int.natCast_nonneg _) (by exact_mod_cast ha)]
  push_cast
  rfl
theorem getD_text (s : ByteArray) (k : Nat) (hk : k < s.size) : s.data.toList.getD k 0 = s[k] := by
  have hl : s.data.toList.length = s.size := rfl
  rw [List.getD_eq_getElem?_getD, List.getElem?_eq_getElem (by omega)]
  rfl
theorem row_step (x : Nat) (s : List UInt8) (k : Nat) (hk : k < 3) (hx : x = (s.getD k 0).toNat) : bits BinOp.or IntKind.u32 (rowN s k : Int) ((x : Int) % 4294967296 * 2 ^ (16 - 8 * k) % 4294967296) = (rowN s (k + 1) : Int) := by
  subst hx
  have h0 := (s.getD k 0).toNat_lt
  have hlo := row_lt s k (by omega)
  have hhi := row_lt s (k + 1) (by omega)
  have hp : 2 ^ (16 - 8 * k) ≤ 2 ^ 16 := Nat.pow_le_pow_right (by omega) (by omega)
  have hm : (s.getD k 0).toNat * 2 ^ (16 - 8 * k) < 4294967296 := Nat.lt_of_le_of_lt (Nat.mul_le_mul (Nat.le_of_lt h0) hp) (by decide)
  have e : (((s.getD k 0).toNat : Int) % 4294967296 * 2 ^ (16 - 8 * k) % 4294967296) = (((s.getD k 0).toNat * 2 ^ (16 - 8 * k) : Nat) : Int) := by
    have e1 : ((s.getD k 0).toNat : Int) % 4294967296 = (s.getD k 0).toNat := by omega
    rw [e1]
    have : ((s.getD k 0).toNat : Int) * 2 ^ (16 - 8 * k) = (((s.getD k 0).toNat * 2 ^ (16 - 8 * k) : Nat) : Int) := by push_cast; rfl
    rw [this]
    omega
  rw [e, or_u32 _ _ (by omega) (by omega), row_or s k hk]

/-- The letters by number, as the program holds them. -/
theorem alphabet_fin : ∀ v : Fin 64, (⟨#[65, 66, 67, 68, 69, 70, 71, 72, 73, 74, 75, 76, 77, 78, 79, 80, 81, 82, 83, 84, 85, 86, 87, 88, 89, 90, 97, 98, 99, 100, 101, 102, 103, 104, 105, 106, 107, 108, 109, 110, 111, 112, 113, 114, 115, 116, 117, 118, 119, 120, 121, 122, 48, 49, 50, 51, 52, 53, 54, 55, 56, 57, 43, 47]⟩ : ByteArray)[v.val]'(v.isLt) = letterB v.val := by decide +kernel
theorem alphabet_at (v : Nat) (h : v < 64) : (⟨#[65, 66, 67, 68, 69, 70, 71, 72, 73, 74, 75, 76, 77, 78, 79, 80, 81, 82, 83, 84, 85, 86, 87, 88, 89, 90, 97, 98, 99, 100, 101, 102, 103, 104, 105, 106, 107, 108, 109, 110, 111, 112, 113, 114, 115, 116, 117, 118, 119, 120, 121, 122, 48, 49, 50, 51, 52, 53, 54, 55, 56, 57, 43, 47]⟩ : ByteArray)[v]'(h) = letterB v := alphabet_fin ⟨v, h⟩

set_option maxRecDepth 100000 in
set_option maxHeartbeats 2000000 in
theorem wrow_any (B b : Nat) (l : List UInt8) (s : ByteArray) (w : World) (h : Lib.BuilderAt 69 5 B b (.pointer (some ⟨b, 0, none⟩)) (Lib.byteCells l) w) (hlen : l.length + 4 ≤ 1000000000) (hBw : B ≤ w.heap.size) (h1 : 1 ≤ s.size) (h3 : s.size ≤ 3) :
    Calls Tryz.prog 70 #[.pointer (some ⟨b, 0, none⟩), .string s] w fun e w' => e = .returned (.tuple #[]) ∧ Lib.BuilderAt 69 5 B b (.pointer (some ⟨b, 0, none⟩)) (Lib.byteCells (l ++ encB s.data.toList)) w' ∧ Below B w w' := by
  have hsl : s.data.toList.length = s.size := rfl
  have hrl := row_letters s.data.toList (by omega) (by omega)
  have Hrl := Lib.hid hrl
  have Hget := Lib.hid (getD_text s)
  clear hrl hsl
  go_enter Tryz.func70, Tryz.ntmps70
  go_wp2
  go_loop [4, 5, 9] (fun bv _ iv => ∃ k : Nat, k ≤ s.size ∧ iv = .int .i64 k ∧ bv = .int .u32 (rowN s.data.toList k)) (fun _ _ iv => s.size - (intOf iv).toNat)
  case atStart => exact ⟨0, by omega, rfl, rfl⟩
  case round =>
    obtain ⟨k, hk, rfl, rfl⟩ := hrel
    by_cases hlt : k < s.size
    · have hst := row_step s[k].toNat s.data.toList k (by omega) (by rw [Hget.out k hlt])
      have Hst := Lib.hid hst
      clear hst
      go_wp2
      exact ⟨⟨k + 1, by omega, by go_num, by rw [Hst.out]⟩, by simp [intOf]; omega⟩
    · obtain rfl : k = s.size := by omega
      have hlo := row_lt s.data.toList s.size h3
      have Hlo := Lib.hid hlo
      clear hlo Hget
      generalize hN : rowN s.data.toList s.size = N at Hlo
      have HN := Lib.hid hN
      clear hN
      have hb0 := Below.refl B w
      go_wp2
      go_loopw [6, 23] (fun _ iv wr => ∃ p : Nat, p ≤ 4 ∧ iv = .int .i64 p ∧ Lib.BuilderAt 69 5 B b (.pointer (some ⟨b, 0, none⟩)) (Lib.byteCells (l ++ (encB s.data.toList).take p)) wr ∧ Below B w wr) (fun _ iv _ => 4 - (intOf iv).toNat)
      case atStart => exact ⟨0, by omega, rfl, by simpa using h, hb0⟩
      case round =>
        obtain ⟨p, hp, rfl, hbd, hbr⟩ := hrel
        by_cases hp4 : p < 4
        · have hnx : (encB s.data.toList).take (p + 1) = (encB s.data.toList).take p ++ [rowL s.data.toList p] := by
            rw [Hrl.out]
            rcases (by omega : p = 0 ∨ p = 1 ∨ p = 2 ∨ p = 3) with rfl | rfl | rfl | rfl <;> rfl
          have Hnx := Lib.hid hnx
          clear hnx
          have hlp : (l ++ (encB s.data.toList).take p).length ≤ l.length + p := by simp; omega
          by_cases hps : s.size < p
          · have hr : rowL s.data.toList p = 61 := if_pos hps
            have hwr := bwrite_any B b (Lib.byteCells (l ++ (encB s.data.toList).take p)) ⟨#[61]⟩ wr (.inr hbd) (by rw [Lib.byteCells_length]; show _ + 1 ≤ _; omega) (by have := hbr.size; omega)
            rw [show Lib.byteCells (l ++ (encB s.data.toList).take p) ++ Lib.strCells ⟨#[61]⟩ = Lib.byteCells (l ++ (encB s.data.toList).take (p + 1)) by rw [Hnx.out, hr, ← List.append_assoc, Lib.byteCells_append (l ++ _)]; rfl] at hwr
            clear hr hlp
            go_wp2_with (go_at_call 47; refine hwr.mono ?_)
            rintro e w2 ⟨rfl, hb2, hw2⟩
            go_wp2
            exact ⟨⟨p + 1, by omega, by go_num, hb2, hbr.trans hw2⟩, by simp [intOf]; omega⟩
          · obtain ⟨v, hv64, hvN, hvb⟩ : ∃ v, v < 64 ∧ N / 2 ^ (18 - 6 * p) % 64 = v ∧ bits BinOp.and IntKind.u32 ((N : Int) / 2 ^ (18 - 6 * p)) 63 = (v : Int) := by
              refine ⟨_, Nat.mod_lt _ (by omega), rfl, ?_⟩
              have e : ((N : Int) / 2 ^ (18 - 6 * p)) = ((N / 2 ^ (18 - 6 * p) : Nat) : Int) := by push_cast; rfl
              rw [e]
              exact mask_u32 _ 6 (Nat.lt_of_le_of_lt (Nat.div_le_self _ _) (by have := Hlo.out; omega)) (by decide)
            have hr : rowL s.data.toList p = letterB v := by
              unfold rowL
              rw [if_neg (by exact hps)]
              show letterB (rowN s.data.toList s.size / 2 ^ (18 - 6 * p) % 64) = _
              rw [HN.out, hvN]
            have hwr := wbyte_any B b (l ++ (encB s.data.toList).take p) (letterB v) wr (.inr hbd) (by omega) (by have := hbr.size; omega)
            rw [List.append_assoc, ← hr, ← Hnx.out] at hwr
            have hwr' : ∀ c : UInt8, c = rowL s.data.toList p → Calls Tryz.prog 101 #[.pointer (some ⟨b, 0, none⟩), .int .u8 (c.toNat : Int)] wr fun e w' => e = .returned .nilIface ∧ (Lib.BuilderAt 69 5 B b (.pointer (some ⟨b, 0, none⟩)) (Lib.byteCells (l ++ (encB s.data.toList).take (p + 1))) w' ∧ Below B wr w') := fun c hc => by
              subst hc
              exact hwr
            clear hlp hvN hwr
            have Hr := Lib.hid hr
            clear hr
            go_wp2_with (go_at_call 101; refine (hwr' _ ((alphabet_at v hv64).trans Hr.out.symm)).mono ?_)
            rintro e w2 ⟨rfl, hb2, hw2⟩
            go_wp2
            exact ⟨⟨p + 1, by omega, by go_num, hb2, hbr.trans hw2⟩, by simp [intOf]; omega⟩
        · obtain rfl : p = 4 := by omega
          have hfin : (encB s.data.toList).take 4 = encB s.data.toList := by rw [Hrl.out]; rfl
          rw [hfin] at hbd
          clear hfin
          go_wp2
          go_end0
          exact ⟨rfl, hbd, hbr⟩

/-- Whole rows of three go on with what is left. -/
theorem enc_rows (s : List UInt8) (k : Nat) (h : 3 * k < s.length) : encB (s.take (3 * (k + 1))) = encB (s.take (3 * k)) ++ encB ((s.drop (3 * k)).take 3) := by
  have e : s.take (3 * (k + 1)) = s.take (3 * k) ++ (s.drop (3 * k)).take 3 := by
    rw [show 3 * (k + 1) = 3 * k + 3 by omega, List.take_add]
  rw [e, enc_append _ _ (by rw [List.length_take]; omega)]

/-- Room for a new builder. -/
theorem grow_new (n : Int) (h0 : 0 ≤ n) (h1 : n ≤ 281474976710656) (w : World) :
    Calls Tryz.prog 45 #[.pointer (some ⟨w.heap.size, 0, none⟩), .int .i64 n] (w.alloc (.cells #[.pointer none, .slice none 0 0] 69)) fun e w' => e = .returned (.tuple #[]) ∧ (Lib.BuilderAt 69 5 w.heap.size w.heap.size (.pointer (some ⟨w.heap.size, 0, none⟩)) [] w' ∧ Below w.heap.size w w') := by
  obtain ⟨m, rfl⟩ := Int.eq_ofNat_of_zero_le h0
  refine (Tryz.Builder_Grow_fresh w.heap.size w.heap.size m _ (Nat.le_refl _) (heap_alloc_new w _) (by simp) (by omega)).mono ?_
  rintro e w' ⟨he, hb, hw⟩
  exact ⟨he, hb, ((Below.refl _ w).alloc (Nat.le_refl _) _).trans hw⟩
/-- A piece of a text. -/
theorem piece_data (s : ByteArray) (i j : Nat) : (s.extract i j).data.toList = (s.data.toList.drop i).take (j - i) := by
  rw [Lib.extract_data]

set_option maxRecDepth 100000 in
set_option maxHeartbeats 2000000 in
theorem enc_any (s : ByteArray) (w : World) (hs : s.size ≤ 100000000) :
    Calls Tryz.prog 44 #[.string s] w fun e w' => e = .returned (.string ⟨(encB s.data.toList).toArray⟩) ∧ Below w.heap.size w w' := by
  have hgrow := grow_new (4 * (((s.size : Int) + 2) / 3)) (by omega) (by omega) w
  have hl : s.data.toList.length = s.size := rfl
  have Hl := Lib.hid hl
  have hR : ((s.size : Int) + 2) / 3 = (((s.size + 2) / 3 : Nat) : Int) := by omega
  rw [hR] at hgrow
  have Hrows : Hid (∀ k, 3 * k < s.size → encB (s.data.toList.take (3 * (k + 1))) = encB (s.data.toList.take (3 * k)) ++ encB ((s.data.toList.drop (3 * k)).take 3)) := Lib.hid fun k hk => enc_rows _ k (by rw [hl]; exact hk)
  obtain ⟨R, hRd⟩ : ∃ R, (s.size + 2) / 3 = R := ⟨_, rfl⟩
  rw [hRd] at hR hgrow
  clear hl
  go_enter Tryz.func44, Tryz.ntmps44
  go_wp2_with (go_at_call 45; refine hgrow.mono ?_)
  rintro e w1 ⟨rfl, hb1, hw1⟩
  go_wp2
  go_loopw [5, 14] (fun _ iv wr => ∃ k : Nat, k ≤ R ∧ iv = .int .i64 k ∧ Lib.BuilderAt 69 5 w.heap.size w.heap.size (.pointer (some ⟨w.heap.size, 0, none⟩)) (Lib.byteCells (encB (s.data.toList.take (3 * k)))) wr ∧ Below w.heap.size w wr) (fun _ iv _ => R - (intOf iv).toNat)
  case atStart => exact ⟨0, by omega, rfl, by rw [Nat.mul_zero, List.take_zero]; exact hb1, hw1⟩
  case round =>
    obtain ⟨k, hk, rfl, hbd, hbr⟩ := hrel
    by_cases hlt : k < R
    · have hk3 : 3 * k < s.size := by omega
      have hd : (s.extract (3 * k) (min (3 * (k : Int) + 3) s.size).toNat).data.toList = (s.data.toList.drop (3 * k)).take 3 := by
        rw [piece_data]
        have e : (min (3 * (k : Int) + 3) s.size).toNat - 3 * k = min 3 (s.size - 3 * k) := by omega
        rw [e]
        have := Hl.out
        rcases (by omega : 3 ≤ s.size - 3 * k ∨ s.size - 3 * k < 3) with h | h
        · rw [show min 3 (s.size - 3 * k) = 3 by omega]
        · rw [List.take_of_length_le (by rw [List.length_drop]; omega), List.take_of_length_le (by rw [List.length_drop]; omega)]
      have hz : (s.extract (3 * k) (min (3 * (k : Int) + 3) s.size).toNat).size = min 3 (s.size - 3 * k) := by
        have := congrArg List.length hd
        rw [List.length_take, List.length_drop, Hl.out] at this
        exact this
      have hle := enc_len (s.data.toList.take (3 * k))
      rw [List.length_take, Hl.out] at hle
      have hbs := hbr.size
      have hcall := wrow_any w.heap.size w.heap.size (encB (s.data.toList.take (3 * k))) (s.extract (3 * k) (min (3 * (k : Int) + 3) s.size).toNat) wr hbd (by omega) hbs (by omega) (by omega)
      rw [hd, ← Hrows.out k hk3] at hcall
      clear hd hz hle
      go_wp2_with (go_at_call 70; refine hcall.mono ?_)
      rintro e w2 ⟨rfl, hb2, hw2⟩
      go_wp2
      exact ⟨⟨k + 1, by omega, by go_num, hb2, hbr.trans hw2⟩, by simp [intOf]; omega⟩
    · obtain rfl : k = R := by omega
      have hall : s.data.toList.take (3 * k) = s.data.toList := List.take_of_length_le (by rw [Hl.out]; omega)
      rw [hall] at hbd
      have hstr := Tryz.Builder_String_any w.heap.size w.heap.size (encB s.data.toList) wr (.inr hbd) hbr.size
      clear hall
      go_wp2_with (go_at_call 48; refine hstr.mono ?_)
      rintro e w2 ⟨rfl, hw2⟩
      go_wp2
      go_ret
      exact ⟨rfl, hbr.trans hw2⟩
end Go.Proofs.YtidlpdiephlkhaaGreatDoor
