/-
  Texts of this proof, put together: B64F, E64P, E64.
-/
import Derived.Lib.Hide
import Derived.Test.YtidlpdiephlkhaaGreatDoorT04
import Derived.Test.YtidlpdiephlkhaaGreatDoorShelf
import Derived.Deep.QuietTactic
import Derived.Laws.BitsLemmas
namespace Go.Proofs.YtidlpdiephlkhaaGreatDoor

/-- A worth's letter. -/
def letterB (v : Nat) : UInt8 := if v < 26 then UInt8.ofNat (65 + v) else if v < 52 then UInt8.ofNat (71 + v) else if v < 62 then UInt8.ofNat (v - 4) else if v = 62 then 43 else 47
/-- A letter's worth. -/
def worthB (c : UInt8) : Option Nat :=
  if 65 ≤ c.toNat ∧ c.toNat ≤ 90 then some (c.toNat - 65) else if 97 ≤ c.toNat ∧ c.toNat ≤ 122 then some (c.toNat - 71) else if 48 ≤ c.toNat ∧ c.toNat ≤ 57 then some (c.toNat + 4) else if c.toNat = 43 then some 62 else if c.toNat = 47 then some 63 else none
theorem worth_letter : ∀ v : Nat, v < 64 → worthB (letterB v) = some v := by decide +kernel
theorem letter_all : ∀ n : Fin 256, (match worthB (UInt8.ofNat n) with | some v => decide (v < 64) && decide (letterB v = UInt8.ofNat n) | none => true) = true := by decide +kernel
theorem letter_worth {c : UInt8} {v : Nat} (h : worthB c = some v) : v < 64 ∧ letterB v = c := by
  have := letter_all ⟨c.toNat, c.toNat_lt⟩
  simp only [UInt8.ofNat_toNat, h, Bool.and_eq_true, decide_eq_true_eq] at this
  exact this
theorem letter_ne : ∀ v : Nat, v < 64 → letterB v ≠ 61 := by decide +kernel
theorem letter_end : ∀ v : Nat, v < 64 → letterB v ≠ 13 ∧ letterB v ≠ 10 := by decide +kernel
theorem worth_pad : worthB 61 = none := by decide +kernel

/-- The letters of bytes. -/
def encB : List UInt8 → List UInt8
  | [] => []
  | [a] => [letterB (a.toNat / 4), letterB (a.toNat % 4 * 16), 61, 61]
  | [a, b] => [letterB (a.toNat / 4), letterB (a.toNat % 4 * 16 + b.toNat / 16), letterB (b.toNat % 16 * 4), 61]
  | a :: b :: c :: r => letterB (a.toNat / 4) :: letterB (a.toNat % 4 * 16 + b.toNat / 16) :: letterB (b.toNat % 16 * 4 + c.toNat / 64) :: letterB (c.toNat % 64) :: encB r
/-- Four letters' three bytes. -/
def quadB (w x y z : UInt8) : Option (List UInt8) :=
  match worthB w, worthB x, worthB y, worthB z with
  | some p, some q, some r, some t => some [UInt8.ofNat (p * 4 + q / 16), UInt8.ofNat (q % 16 * 16 + r / 4), UInt8.ofNat (r % 4 * 64 + t)]
  | _, _, _, _ => none
/-- The last four letters' bytes. -/
def lastB (w x y z : UInt8) : Option (List UInt8) :=
  if z = 61 then
    (if y = 61 then
      (match worthB w, worthB x with
        | some p, some q => if q % 16 = 0 then some [UInt8.ofNat (p * 4 + q / 16)] else none
        | _, _ => none)
    else
      (match worthB w, worthB x, worthB y with
        | some p, some q, some r => if r % 4 = 0 then some [UInt8.ofNat (p * 4 + q / 16), UInt8.ofNat (q % 16 * 16 + r / 4)] else none
        | _, _, _ => none))
  else quadB w x y z
/-- The bytes of letters, or none. -/
def decB : List UInt8 → Option (List UInt8)
  | [] => some []
  | w :: x :: y :: z :: t => if t = [] then lastB w x y z else
      (match quadB w x y z, decB t with
        | some a, some r => some (a ++ r)
        | _, _ => none)
  | _ => none

theorem of_eq {a : UInt8} {n : Nat} (h : n = a.toNat) : UInt8.ofNat n = a := by rw [h, UInt8.ofNat_toNat]
theorem quad_enc (a b c : UInt8) : quadB (letterB (a.toNat / 4)) (letterB (a.toNat % 4 * 16 + b.toNat / 16)) (letterB (b.toNat % 16 * 4 + c.toNat / 64)) (letterB (c.toNat % 64)) = some [a, b, c] := by
  have ha := a.toNat_lt
  have hb := b.toNat_lt
  have hc := c.toNat_lt
  unfold quadB
  rw [worth_letter _ (by omega), worth_letter _ (by omega), worth_letter _ (by omega), worth_letter _ (by omega)]
  simp only
  rw [of_eq (a := a) (by omega), of_eq (a := b) (by omega), of_eq (a := c) (by omega)]
theorem last_one (a : UInt8) : lastB (letterB (a.toNat / 4)) (letterB (a.toNat % 4 * 16)) 61 61 = some [a] := by
  have ha := a.toNat_lt
  unfold lastB
  rw [if_pos rfl, if_pos rfl, worth_letter _ (by omega), worth_letter _ (by omega)]
  simp only
  rw [if_pos (by omega), of_eq (a := a) (by omega)]
theorem last_two (a b : UInt8) : lastB (letterB (a.toNat / 4)) (letterB (a.toNat % 4 * 16 + b.toNat / 16)) (letterB (b.toNat % 16 * 4)) 61 = some [a, b] := by
  have ha := a.toNat_lt
  have hb := b.toNat_lt
  unfold lastB
  rw [if_pos rfl, if_neg (letter_ne _ (by omega)), worth_letter _ (by omega), worth_letter _ (by omega), worth_letter _ (by omega)]
  simp only
  rw [if_pos (by omega), of_eq (a := a) (by omega), of_eq (a := b) (by omega)]
theorem last_three (a b c : UInt8) : lastB (letterB (a.toNat / 4)) (letterB (a.toNat % 4 * 16 + b.toNat / 16)) (letterB (b.toNat % 16 * 4 + c.toNat / 64)) (letterB (c.toNat % 64)) = some [a, b, c] := by
  unfold lastB
  rw [if_neg (letter_ne _ (by omega)), quad_enc]
theorem enc_ne {s : List UInt8} (h : s ≠ []) : encB s ≠ [] := by
  match s, h with
  | [_], _ => simp [encB]
  | [_, _], _ => simp [encB]
  | _ :: _ :: _ :: _, _ => simp [encB]
theorem enc_nil {s : List UInt8} (h : encB s = []) : s = [] := by
  cases s with
  | nil => rfl
  | cons a s => exact absurd h (enc_ne (by simp))
/-- WHAT WAS ENCODED IS DECODED. -/
theorem dec_enc : ∀ s : List UInt8, decB (encB s) = some s
  | [] => rfl
  | [a] => by rw [encB, decB, if_pos rfl, last_one]
  | [a, b] => by rw [encB, decB, if_pos rfl, last_two]
  | a :: b :: c :: r => by
    rw [encB, decB]
    by_cases h : encB r = []
    · have := enc_nil h
      subst this
      rw [if_pos h, last_three]
    · rw [if_neg h, quad_enc, dec_enc r]
      rfl
theorem quad_some {w x y z : UInt8} {l : List UInt8} (h : quadB w x y z = some l) : ∃ a b c : UInt8, l = [a, b, c] ∧ w = letterB (a.toNat / 4) ∧ x = letterB (a.toNat % 4 * 16 + b.toNat / 16) ∧ y = letterB (b.toNat % 16 * 4 + c.toNat / 64) ∧ z = letterB (c.toNat % 64) := by
  unfold quadB at h
  cases hw : worthB w with
  | none => simp [hw] at h
  | some p =>
    cases hx : worthB x with
    | none => simp [hw, hx] at h
    | some q =>
      cases hy : worthB y with
      | none => simp [hw, hx, hy] at h
      | some r =>
        cases hz : worthB z with
        | none => simp [hw, hx, hy, hz] at h
        | some t =>
          simp only [hw, hx, hy, hz, Option.some.injEq] at h
          obtain ⟨p1, p2⟩ := letter_worth hw
          obtain ⟨q1, q2⟩ := letter_worth hx
          obtain ⟨r1, r2⟩ := letter_worth hy
          obtain ⟨t1, t2⟩ := letter_worth hz
          have e1 : (UInt8.ofNat (p * 4 + q / 16)).toNat = p * 4 + q / 16 := UInt8.toNat_ofNat_of_lt' (by show _ < 256; omega)
          have e2 : (UInt8.ofNat (q % 16 * 16 + r / 4)).toNat = q % 16 * 16 + r / 4 := UInt8.toNat_ofNat_of_lt' (by show _ < 256; omega)
          have e3 : (UInt8.ofNat (r % 4 * 64 + t)).toNat = r % 4 * 64 + t := UInt8.toNat_ofNat_of_lt' (by show _ < 256; omega)
          refine ⟨_, _, _, h.symm, ?_, ?_, ?_, ?_⟩
          · rw [e1, ← p2]; congr 1; omega
          · rw [e1, e2, ← q2]; congr 1; omega
          · rw [e2, e3, ← r2]; congr 1; omega
          · rw [e3, ← t2]; congr 1; omega
theorem last_some {w x y z : UInt8} {l : List UInt8} (h : lastB w x y z = some l) : encB l = [w, x, y, z] := by
  unfold lastB at h
  by_cases hz : z = 61
  · rw [if_pos hz] at h
    by_cases hy : y = 61
    · rw [if_pos hy] at h
      cases hw : worthB w with
      | none => simp [hw] at h
      | some p =>
        cases hx : worthB x with
        | none => simp [hw, hx] at h
        | some q =>
          simp only [hw, hx] at h
          by_cases hq : q % 16 = 0
          · rw [if_pos hq, Option.some.injEq] at h
            obtain ⟨p1, p2⟩ := letter_worth hw
            obtain ⟨q1, q2⟩ := letter_worth hx
            have e1 : (UInt8.ofNat (p * 4 + q / 16)).toNat = p * 4 + q / 16 := UInt8.toNat_ofNat_of_lt' (by show _ < 256; omega)
            rw [← h, encB, e1, hy, hz, ← p2, ← q2]
            congr 2
            · congr 1; omega
            · congr 2; omega
          · rw [if_neg hq] at h; cases h
    · rw [if_neg hy] at h
      cases hw : worthB w with
      | none => simp [hw] at h
      | some p =>
        cases hx : worthB x with
        | none => simp [hw, hx] at h
        | some q =>
          cases hy2 : worthB y with
          | none => simp [hw, hx, hy2] at h
          | some r =>
            simp only [hw, hx, hy2] at h
            by_cases hq : r % 4 = 0
            · rw [if_pos hq, Option.some.injEq] at h
              obtain ⟨p1, p2⟩ := letter_worth hw
              obtain ⟨q1, q2⟩ := letter_worth hx
              obtain ⟨r1, r2⟩ := letter_worth hy2
              have e1 : (UInt8.ofNat (p * 4 + q / 16)).toNat = p * 4 + q / 16 := UInt8.toNat_ofNat_of_lt' (by show _ < 256; omega)
              have e2 : (UInt8.ofNat (q % 16 * 16 + r / 4)).toNat = q % 16 * 16 + r / 4 := UInt8.toNat_ofNat_of_lt' (by show _ < 256; omega)
              have f1 : (p * 4 + q / 16) / 4 = p := by omega
              have f2 : (p * 4 + q / 16) % 4 * 16 + (q % 16 * 16 + r / 4) / 16 = q := by omega
              have f3 : (q % 16 * 16 + r / 4) % 16 * 4 = r := by omega
              rw [← h, encB, e1, e2, f1, f2, f3, hz, p2, q2, r2]
            · rw [if_neg hq] at h; cases h
  · rw [if_neg hz] at h
    obtain ⟨a, b, c, rfl, rfl, rfl, rfl, rfl⟩ := quad_some h
    rfl
/-- WHAT IS DECODED WAS ENCODED JUST SO. -/
theorem enc_dec : ∀ (t s : List UInt8), decB t = some s → encB s = t
  | [], s, h => by
    rw [decB] at h
    cases h
    rfl
  | [_], s, h => by simp [decB] at h
  | [_, _], s, h => by simp [decB] at h
  | [_, _, _], s, h => by simp [decB] at h
  | w :: x :: y :: z :: t, s, h => by
    rw [decB] at h
    by_cases ht : t = []
    · rw [if_pos ht] at h
      rw [ht]
      exact last_some h
    · rw [if_neg ht] at h
      cases hq : quadB w x y z with
      | none => simp [hq] at h
      | some a =>
        cases hd : decB t with
        | none => simp [hq, hd] at h
        | some r =>
          simp only [hq, hd, Option.some.injEq] at h
          obtain ⟨a1, b1, c1, rfl, rfl, rfl, rfl, rfl⟩ := quad_some hq
          rw [← h]
          show encB (a1 :: b1 :: c1 :: r) = _
          rw [encB, enc_dec t r hd]
theorem enc_len : ∀ s : List UInt8, (encB s).length = (s.length + 2) / 3 * 4
  | [] => rfl
  | [_] => by simp [encB]
  | [_, _] => by simp [encB]
  | _ :: _ :: _ :: r => by
    rw [encB]
    simp only [List.length_cons, enc_len r]
    omega
theorem dec_len {t s : List UInt8} (h : decB t = some s) : t.length % 4 = 0 := by
  rw [← enc_dec t s h, enc_len]
  omega
/-- Is a byte a letter, or fills up? -/
def letterOk (c : UInt8) : Prop := c = 61 ∨ ∃ v, v < 64 ∧ c = letterB v
theorem enc_ok : ∀ s : List UInt8, ∀ c ∈ encB s, letterOk c
  | [], c, hc => by simp [encB] at hc
  | [a], c, hc => by
    have ha := a.toNat_lt
    simp only [encB, List.mem_cons, List.not_mem_nil, or_false] at hc
    rcases hc with rfl | rfl | rfl | rfl
    · exact .inr ⟨_, by omega, rfl⟩
    · exact .inr ⟨_, by omega, rfl⟩
    · exact .inl rfl
    · exact .inl rfl
  | [a, b], c, hc => by
    have ha := a.toNat_lt
    have hb := b.toNat_lt
    simp only [encB, List.mem_cons, List.not_mem_nil, or_false] at hc
    rcases hc with rfl | rfl | rfl | rfl
    · exact .inr ⟨_, by omega, rfl⟩
    · exact .inr ⟨_, by omega, rfl⟩
    · exact .inr ⟨_, by omega, rfl⟩
    · exact .inl rfl
  | a :: b :: d :: r, c, hc => by
    have ha := a.toNat_lt
    have hb := b.toNat_lt
    have hd := d.toNat_lt
    simp only [encB, List.mem_cons] at hc
    rcases hc with rfl | rfl | rfl | rfl | hc
    · exact .inr ⟨_, by omega, rfl⟩
    · exact .inr ⟨_, by omega, rfl⟩
    · exact .inr ⟨_, by omega, rfl⟩
    · exact .inr ⟨_, by omega, rfl⟩
    · exact enc_ok r c hc
theorem ok_end {c : UInt8} (h : letterOk c) : c ≠ 13 ∧ c ≠ 10 := by
  rcases h with rfl | ⟨v, hv, rfl⟩
  · decide
  · exact letter_end v hv
/-- Letters in lines of 76, each with an end. -/
def foldB (l : List UInt8) : List UInt8 := if _h : l = [] then [] else l.take 76 ++ (13 :: 10 :: foldB (l.drop 76))
termination_by l.length
decreasing_by
  have h0 : l ≠ [] := by assumption
  cases l with
  | nil => exact absurd rfl h0
  | cons a l => simp; omega
theorem fold_nil : foldB [] = [] := by rw [foldB]; simp
theorem fold_cons {l : List UInt8} (h : l ≠ []) : foldB l = l.take 76 ++ (13 :: 10 :: foldB (l.drop 76)) := by
  rw [foldB, dif_neg h]
theorem fold_len (l : List UInt8) : ∀ n, l.length = n → (foldB l).length = l.length + 2 * ((l.length + 75) / 76) := by
  intro n
  induction n using Nat.strongRecOn generalizing l with
  | ind n ih =>
    intro hn
    by_cases h : l = []
    · subst h
      rw [fold_nil]
      rfl
    · have hp : 0 < l.length := List.length_pos_iff.2 h
      rw [fold_cons h]
      simp only [List.length_append, List.length_take, List.length_cons]
      rw [ih (l.drop 76).length (by rw [List.length_drop]; omega) (l.drop 76) rfl, List.length_drop]
      omega
/-- Without its ends a folded text is its letters. -/
def plainB (t : List UInt8) : List UInt8 := t.filter fun c => decide (c ≠ 13 ∧ c ≠ 10)
theorem plain_id {l : List UInt8} (h : ∀ c ∈ l, c ≠ 13 ∧ c ≠ 10) : plainB l = l := by
  unfold plainB
  rw [List.filter_eq_self]
  intro c hc
  exact decide_eq_true (h c hc)
theorem plain_fold (l : List UInt8) : ∀ n, l.length = n → (∀ c ∈ l, c ≠ 13 ∧ c ≠ 10) → plainB (foldB l) = l := by
  intro n
  induction n using Nat.strongRecOn generalizing l with
  | ind n ih =>
    intro hn hl
    by_cases h : l = []
    · subst h
      rw [fold_nil]
      rfl
    · have hp : 0 < l.length := List.length_pos_iff.2 h
      have h1 := plain_id (l := l.take 76) (fun c hc => hl c (List.mem_of_mem_take hc))
      have h2 := ih (l.drop 76).length (by rw [List.length_drop]; omega) (l.drop 76) rfl (fun c hc => hl c (List.mem_of_mem_drop hc))
      rw [fold_cons h]
      unfold plainB at h1 h2 ⊢
      rw [List.filter_append, h1]
      have h3 : List.filter (fun c => decide (c ≠ 13 ∧ c ≠ 10)) (13 :: 10 :: foldB (l.drop 76)) = l.drop 76 := by
        rw [List.filter_cons_of_neg (by decide), List.filter_cons_of_neg (by decide), h2]
      rw [h3, List.take_append_drop]
/-- The bytes of folded letters, or none. -/
def unfoldB (t : List UInt8) : Option (List UInt8) :=
  match decB (plainB t) with
  | some s => if foldB (encB s) = t then some s else none
  | none => none
theorem unfold_fold (s : List UInt8) : unfoldB (foldB (encB s)) = some s := by
  unfold unfoldB
  rw [plain_fold (encB s) _ rfl (fun c hc => ok_end (enc_ok s c hc)), dec_enc]
  simp
theorem fold_unfold {t s : List UInt8} (h : unfoldB t = some s) : foldB (encB s) = t := by
  unfold unfoldB at h
  cases hd : decB (plainB t) with
  | none => simp [hd] at h
  | some r =>
    simp only [hd] at h
    by_cases he : foldB (encB r) = t
    · rw [if_pos he, Option.some.injEq] at h
      rw [← h]
      exact he
    · rw [if_neg he] at h
      cases h
end Go.Proofs.YtidlpdiephlkhaaGreatDoor
namespace Go.Proofs.YtidlpdiephlkhaaGreatDoor

/-- What stands behind a multiple is put to it by 'or', too. -/
theorem or_add (a b i : Nat) (h : b < 2 ^ i) : (a * 2 ^ i) ||| b = a * 2 ^ i + b := by
  rw [Nat.mul_comm a, ← Nat.two_pow_add_eq_or_of_lt h]
end Go.Proofs.YtidlpdiephlkhaaGreatDoor
namespace Go.Proofs.YtidlpdiephlkhaaGreatDoor
open Go.RowKit

theorem wraps_u32 (n : Int) (h0 : 0 ≤ n) (h1 : n < 2 ^ 32) : IntKind.u32.wrap n = n := by rw [IntKind.wrap_u32]; omega
theorem or_u32 (a b : Nat) (ha : a < 2 ^ 32) (hb : b < 2 ^ 32) : bits .or .u32 (a : Int) (b : Int) = ((a ||| b : Nat) : Int) := (bits_nat .u32 32 (by decide) wraps_u32 a b ha hb).2
theorem mask_u32 (a i : Nat) (ha : a < 2 ^ 32) (hi : i ≤ 32) : bits .and .u32 (a : Int) (2 ^ i - 1) = ((a % 2 ^ i : Nat) : Int) := by
  rw [bits_mask .u32 32 (by decide) wraps_u32 i hi a (Int.natCast_nonneg _) (by exact_mod_cast ha)]
  push_cast
  rfl
/-- The letters by number, as the program holds them. -/
theorem alphabet_fin : ∀ v : Fin 64, (⟨#[65, 66, 67, 68, 69, 70, 71, 72, 73, 74, 75, 76, 77, 78, 79, 80, 81, 82, 83, 84, 85, 86, 87, 88, 89, 90, 97, 98, 99, 100, 101, 102, 103, 104, 105, 106, 107, 108, 109, 110, 111, 112, 113, 114, 115, 116, 117, 118, 119, 120, 121, 122, 48, 49, 50, 51, 52, 53, 54, 55, 56, 57, 43, 47]⟩ : ByteArray)[v.val]'(v.isLt) = letterB v.val := by decide +kernel
theorem alphabet_at (v : Nat) (h : v < 64) : (⟨#[65, 66, 67, 68, 69, 70, 71, 72, 73, 74, 75, 76, 77, 78, 79, 80, 81, 82, 83, 84, 85, 86, 87, 88, 89, 90, 97, 98, 99, 100, 101, 102, 103, 104, 105, 106, 107, 108, 109, 110, 111, 112, 113, 114, 115, 116, 117, 118, 119, 120, 121, 122, 48, 49, 50, 51, 52, 53, 54, 55, 56, 57, 43, 47]⟩ : ByteArray)[v]'(h) = letterB v := alphabet_fin ⟨v, h⟩

/-- Room for a new builder. -/
theorem grow_new (n : Int) (h0 : 0 ≤ n) (h1 : n ≤ 281474976710656) (w : World) :
    Calls Tryz.prog 45 #[.pointer (some ⟨w.heap.size, 0, none⟩), .int .i64 n] (w.alloc (.cells #[.pointer none, .slice none 0 0] 69)) fun e w' => e = .returned (.tuple #[]) ∧ (Lib.BuilderAt 69 5 w.heap.size w.heap.size (.pointer (some ⟨w.heap.size, 0, none⟩)) [] w' ∧ Below w.heap.size w w') := by
  obtain ⟨m, rfl⟩ := Int.eq_ofNat_of_zero_le h0
  refine (Tryz.Builder_Grow_fresh w.heap.size w.heap.size m _ (Nat.le_refl _) (heap_alloc_new w _) (by simp) (by omega)).mono ?_
  rintro e w' ⟨he, hb, hw⟩
  exact ⟨he, hb, ((Below.refl _ w).alloc (Nat.le_refl _) _).trans hw⟩
end Go.Proofs.YtidlpdiephlkhaaGreatDoor
