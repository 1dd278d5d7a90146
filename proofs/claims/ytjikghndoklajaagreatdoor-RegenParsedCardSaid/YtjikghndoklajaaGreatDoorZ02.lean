/-
  Texts of this proof, put together: B64F, B64R, T64P.
-/
import Derived.Lib.Hide
namespace Go.Proofs.YtjikghndoklajaaGreatDoor

def letterB (v : Nat) : UInt8 := if v < 26 then UInt8.ofNat (65 + v) else if v < 52 then UInt8.ofNat (71 + v) else if v < 62 then UInt8.ofNat (v - 4) else if v = 62 then 43 else 47
def worthB (c : UInt8) : Option Nat :=
  if 65 ≤ c.toNat ∧ c.toNat ≤ 90 then some (c.toNat - 65) else if 97 ≤ c.toNat ∧ c.toNat ≤ 122 then some (c.toNat - 71) else if 48 ≤ c.toNat ∧ c.toNat ≤ 57 then some (c.toNat + 4) else if c.toNat = 43 then some 62 else if c.toNat = 47 then some 63 else none
theorem worth_letter : ∀ v : Nat, v < 64 → worthB (letterB v) = some v := by decide +kernel
theorem letter_all : ∀ n : Fin 256, (match worthB (UInt8.ofNat n) with | some v => decide (v < 64) && decide (letterB v = UInt8.ofNat n) | none => true) = true := by decide +kernel
theorem letter_worth {c : UInt8} {v : Nat} (h : worthB c = some v) : v < 64 ∧ letterB v = c := by
  have := letter_all ⟨c.toNat, c.toNat_lt⟩
  simp only [UInt8.ofNat_toNat, h, Bool.and_eq_true, decide_eq_true_eq] at this
  exact this
theorem letter_ne : ∀ v : Nat, v < 64 → letterB v ≠ 61 := by decide +kernel
theorem letter_end : ∀ v : Nat, v < 64 → letterB v ≠ 13 ∧ letterB v ≠ 10 := by decide +kernel
def encB : List UInt8 → List UInt8
  | [] => []
  | [a] => [letterB (a.toNat / 4), letterB (a.toNat % 4 * 16), 61, 61]
  | [a, b] => [letterB (a.toNat / 4), letterB (a.toNat % 4 * 16 + b.toNat / 16), letterB (b.toNat % 16 * 4), 61]
  | a :: b :: c :: r => letterB (a.toNat / 4) :: letterB (a.toNat % 4 * 16 + b.toNat / 16) :: letterB (b.toNat % 16 * 4 + c.toNat / 64) :: letterB (c.toNat % 64) :: encB r
def quadB (w x y z : UInt8) : Option (List UInt8) :=
  match worthB w, worthB x, worthB y, worthB z with
  | some p, some q, some r, some t => some [UInt8.ofNat (p * 4 + q / 16), UInt8.ofNat (q % 16 * 16 + r / 4), UInt8.ofNat (r % 4 * 64 + t)]
  | _, _, _, _ => none
def lastB (w x y z : UInt8) : Option (List UInt8) :=
  if z = 61 then
    (if y = 61 then
      (match worthB w, worthB x with
        | some p, some q => if q % 16 = 0 then some [UInt8.ofNat (p * 4 + q / 16)] else none
        | _, _ => none)
    else
      (match worthB w, worthB x, worthB y with
        | some p, some q, some r => if r % 4 = 0 then some [UInt8.ofNat (p * 4 + q / 16), UInt8.ofNat (q % 16 * 16 + r / 4)] else none
        | _, _, _ => none))
  else quadB w x y z
def decB : List UInt8 → Option (List UInt8)
  | [] => some []
  | w :: x :: y :: z :: t => if t = [] then lastB w x y z else
      (match quadB w x y z, decB t with
        | some a, some r => some (a ++ r)
        | _, _ => none)
  | _ => none

theorem of_eq {a : UInt8} {n : Nat} (h : n = a.toNat) : UInt8.ofNat n = a := by rw [h, UInt8.ofNat_toNat]
theorem quad_enc (a b c : UInt8) : quadB (letterB (a.toNat / 4)) (letterB (a.toNat % 4 * 16 + b.toNat / 16)) (letterB (b.toNat % 16 * 4 + c.toNat / 64)) (letterB (c.toNat % 64)) = some [a, b, c] := by
  have ha := a.toNat_lt
  have hb := b.toNat_lt
  have hc := c.toNat_lt
  unfold quadB
  rw [worth_letter _ (by omega), worth_letter _ (by omega), worth_letter _ (by omega), worth_letter _ (by omega)]
  simp only
  rw [of_eq (a := a) (by omega), of_eq (a := b) (by omega), of_eq (a := c) (by omega)]
theorem last_one (a : UInt8) : lastB (letterB (a.toNat / 4)) (letterB (a.toNat % 4 * 16)) 61 61 = some [a] := by
  have ha := a.toNat_lt
  unfold lastB
  rw [if_pos rfl, if_pos rfl, worth_letter _ (by omega), worth_letter _ (by omega)]
  simp only
  rw [if_pos (by omega), of_eq (a := a) (by omega)]
theorem last_two (a b : UInt8) : lastB (letterB (a.toNat / 4)) (letterB (a.toNat % 4 * 16 + b.toNat / 16)) (letterB (b.toNat % 16 * 4)) 61 = some [a, b] := by
  have ha := a.toNat_lt
  have hb := b.toNat_lt
  unfold lastB
  rw [if_pos rfl, if_neg (letter_ne _ (by omega)), worth_letter _ (by omega), worth_letter _ (by omega), worth_letter _ (by omega)]
  simp only
  rw [if_pos (by omega), of_eq (a := a) (by omega), of_eq (a := b) (by omega)]
theorem last_three (a b c : UInt8) : lastB (letterB (a.toNat / 4)) (letterB (a.toNat % 4 * 16 + b.toNat / 16)) (letterB (b.toNat % 16 * 4 + c.toNat / 64)) (letterB (c.toNat % 64)) = some [a, b, c] := by
  unfold lastB
  rw [if_neg (letter_ne _ (by omega)), quad_enc]
theorem enc_ne {s : List UInt8} (h : s ≠ []) : encB s ≠ [] := by
  match s, h with
  | [_], _ => simp [encB]
  | [_, _], _ => simp [encB]
  | _ :: _ :: _ :: _, _ => simp [encB]
theorem enc_nil {s : List UInt8} (h : encB s = []) : s = [] := by
  cases s with
  | nil => rfl
  | cons a s => exact absurd h (enc_ne (by simp))
theorem dec_enc : ∀ s : List UInt8, decB (encB s) = some s
  | [] => rfl
  | [a] => by rw [encB, decB, if_pos rfl, last_one]
  | [a, b] => by rw [encB, decB, if_pos rfl, last_two]
  | a :: b :: c :: r => by
    rw [encB, decB]
    by_cases h : encB r = []
    · have := enc_nil h
      subst this
      rw [if_pos h, last_three]
    · rw [if_neg h, quad_enc, dec_enc r]
      rfl
theorem quad_some {w x y z : UInt8} {l : List UInt8} (h : quadB w x y z = some l) : ∃ a b c : UInt8, l = [a, b, c] ∧ w = letterB (a.toNat / 4) ∧ x = letterB (a.toNat % 4 * 16 + b.toNat / 16) ∧ y = letterB (b.toNat % 16 * 4 + c.toNat / 64) ∧ z = letterB (c.toNat % 64) := by
  unfold quadB at h
  cases hw : worthB w with
  | none => simp [hw] at h
  | some p =>
    cases hx : worthB x with
    | none => simp [hw, hx] at h
    | some q =>
      cases hy : worthB y with
      | none => simp [hw, hx, hy] at h
      | some r =>
        cases hz : worthB z with
        | none => simp [hw, hx, hy, hz] at h
        | some t =>
          simp only [hw, hx, hy, hz, Option.some.injEq] at h
          obtain ⟨p1, p2⟩ := letter_worth hw
          obtain ⟨q1, q2⟩ := letter_worth hx
          obtain ⟨r1, r2⟩ := letter_worth hy
          obtain ⟨t1, t2⟩ := letter_worth hz
          have e1 : (UInt8.ofNat (p * 4 + q / 16)).toNat = p * 4 + q / 16 := UInt8.toNat_ofNat_of_lt' (by show _ < 256; omega)
          have e2 : (UInt8.ofNat (q % 16 * 16 + r / 4)).toNat = q % 16 * 16 + r / 4 := UInt8.toNat_ofNat_of_lt' (by show _ < 256; omega)
          have e3 : (UInt8.ofNat (r % 4 * 64 + t)).toNat = r % 4 * 64 + t := UInt8.toNat_ofNat_of_lt' (by show _ < 256; omega)
          refine ⟨_, _, _, h.symm, ?_, ?_, ?_, ?_⟩
          · rw [e1, ← p2]; congr 1; omega
          · rw [e1, e2, ← q2]; congr 1; omega
          · rw [e2, e3, ← r2]; congr 1; omega
          · rw [e3, ← t2]; congr 1; omega
theorem last_some {w x y z : UInt8} {l : List UInt8} (h : lastB w x y z = some l) : encB l = [w, x, y, z] := by
  unfold lastB at h
  by_cases hz : z = 61
  · rw [if_pos hz] at h
    by_cases hy : y = 61
    · rw [if_pos hy] at h
      cases hw : worthB w with
      | none => simp [hw] at h
      | some p =>
        cases hx : worthB x with
        | none => simp [hw, hx] at h
        | some q =>
          simp only [hw, hx] at h
          by_cases hq : q % 16 = 0
          · rw [if_pos hq, Option.some.injEq] at h
            obtain ⟨p1, p2⟩ := letter_worth hw
            obtain ⟨q1, q2⟩ := letter_worth hx
            have e1 : (UInt8.ofNat (p * 4 + q / 16)).toNat = p * 4 + q / 16 := UInt8.toNat_ofNat_of_lt' (by show _ < 256; omega)
            rw [← h, encB, e1, hy, hz, ← p2, ← q2]
            congr 2
            · congr 1; omega
            · congr 2; omega
          · rw [if_neg hq] at h; cases h
    · rw [if_neg hy] at h
      cases hw : worthB w with
      | none => simp [hw] at h
      | some p =>
        cases hx : worthB x with
        | none => simp [hw, hx] at h
        | some q =>
          cases hy2 : worthB y with
          | none => simp [hw, hx, hy2] at h
          | some r =>
            simp only [hw, hx, hy2] at h
            by_cases hq : r % 4 = 0
            · rw [if_pos hq, Option.some.injEq] at h
              obtain ⟨p1, p2⟩ := letter_worth hw
              obtain ⟨q1, q2⟩ := letter_worth hx
              obtain ⟨r1, r2⟩ := letter_worth hy2
              have e1 : (UInt8.ofNat (p * 4 + q / 16)).toNat = p * 4 + q / 16 := UInt8.toNat_ofNat_of_lt' (by show _ < 256; omega)
              have e2 : (UInt8.ofNat (q % 16 * 16 + r / 4)).toNat = q % 16 * 16 + r / 4 := UInt8.toNat_ofNat_of_lt' (by show _ < 256; omega)
              have f1 : (p * 4 + q / 16) / 4 = p := by omega
              have f2 : (p * 4 + q / 16) % 4 * 16 + (q % 16 * 16 + r / 4) / 16 = q := by omega
              have f3 : (q % 16 * 16 + r / 4) % 16 * 4 = r := by omega
              rw [← h, encB, e1, e2, f1, f2, f3, hz, p2, q2, r2]
            · rw [if_neg hq] at h; cases h
  · rw [if_neg hz] at h
    obtain ⟨a, b, c, rfl, rfl, rfl, rfl, rfl⟩ := quad_some h
    rfl
theorem enc_dec : ∀ (t s : List UInt8), decB t = some s → encB s = t
  | [], s, h => by
    rw [decB] at h
    cases h
    rfl
  | [_], s, h => by simp [decB] at h
  | [_, _], s, h => by simp [decB] at h
  | [_, _, _], s, h => by simp [decB] at h
  | w :: x :: y :: z :: t, s, h => by
    rw [decB] at h
    by_cases ht : t = []
    · rw [if_pos ht] at h
      rw [ht]
      exact last_some h
    · rw [if_neg ht] at h
      cases hq : quadB w x y z with
      | none => simp [hq] at h
      | some a =>
        cases hd : decB t with
        | none => simp [hq, hd] at h
        | some r =>
          simp only [hq, hd, Option.some.injEq] at h
          obtain ⟨a1, b1, c1, rfl, rfl, rfl, rfl, rfl⟩ := quad_some hq
          rw [← h]
          show encB (a1 :: b1 :: c1 :: r) = _
          rw [encB, enc_dec t r hd]
theorem enc_len : ∀ s : List UInt8, (encB s).length = (s.length + 2) / 3 * 4
  | [] => rfl
  | [_] => by simp [encB]
  | [_, _] => by simp [encB]
  | _ :: _ :: _ :: r => by
    rw [encB]
    simp only [List.length_cons, enc_len r]
    omega
theorem dec_len {t s : List UInt8} (h : decB t = some s) : t.length % 4 = 0 := by
  rw [← enc_dec t s h, enc_len]
  omega
theorem enc_append (t : List UInt8) : ∀ s : List UInt8, s.length % 3 = 0 → encB (s ++ t) = encB s ++ encB t
  | [], _ => rfl
  | [_], h => by simp at h
  | [_, _], h => by simp at h
  | a :: b :: c :: r, h => by
    have ih := enc_append t r (by simp at h; omega)
    rw [encB]
    show encB (a :: b :: c :: (r ++ t)) = _
    rw [encB, ih]
    rfl
def letterOk (c : UInt8) : Prop := c = 61 ∨ ∃ v, v < 64 ∧ c = letterB v
theorem enc_ok : ∀ s : List UInt8, ∀ c ∈ encB s, letterOk c
  | [], c, hc => by simp [encB] at hc
  | [a], c, hc => by
    have ha := a.toNat_lt
    simp only [encB, List.mem_cons, List.not_mem_nil, or_false] at hc
    rcases hc with rfl | rfl | rfl | rfl
    · exact .inr ⟨_, by omega, rfl⟩
    · exact .inr ⟨_, by omega, rfl⟩
    · exact .inl rfl
    · exact .inl rfl
  | [a, b], c, hc => by
    have ha := a.toNat_lt
    have hb := b.toNat_lt
    simp only [encB, List.mem_cons, List.not_mem_nil, or_false] at hc
    rcases hc with rfl | rfl | rfl | rfl
    · exact .inr ⟨_, by omega, rfl⟩
    · exact .inr ⟨_, by omega, rfl⟩
    · exact .inr ⟨_, by omega, rfl⟩
    · exact .inl rfl
  | a :: b :: d :: r, c, hc => by
    have ha := a.toNat_lt
    have hb := b.toNat_lt
    have hd := d.toNat_lt
    simp only [encB, List.mem_cons] at hc
    rcases hc with rfl | rfl | rfl | rfl | hc
    · exact .inr ⟨_, by omega, rfl⟩
    · exact .inr ⟨_, by omega, rfl⟩
    · exact .inr ⟨_, by omega, rfl⟩
    · exact .inr ⟨_, by omega, rfl⟩
    · exact enc_ok r c hc
theorem ok_end {c : UInt8} (h : letterOk c) : c ≠ 13 ∧ c ≠ 10 := by
  rcases h with rfl | ⟨v, hv, rfl⟩
  · decide
  · exact letter_end v hv
def foldB (l : List UInt8) : List UInt8 := if _h : l = [] then [] else l.take 76 ++ (13 :: 10 :: foldB (l.drop 76))
termination_by l.length
decreasing_by
  have h0 : l ≠ [] := by assumption
  cases l with
  | nil => exact absurd rfl h0
  | cons a l => simp; omega
theorem fold_nil : foldB [] = [] := by rw [foldB]; simp
theorem fold_cons {l : List UInt8} (h : l ≠ []) : foldB l = l.take 76 ++ (13 :: 10 :: foldB (l.drop 76)) := by
  rw [foldB, dif_neg h]
theorem fold_len (l : List UInt8) : ∀ n, l.length = n → (foldB l).length = l.length + 2 * ((l.length + 75) / 76) := by
  intro n
  induction n using Nat.strongRecOn generalizing l with
  | ind n ih =>
    intro hn
    by_cases h : l = []
    · subst h
      rw [fold_nil]
      rfl
    · have hp : 0 < l.length := List.length_pos_iff.2 h
      rw [fold_cons h]
      simp only [List.length_append, List.length_take, List.length_cons]
      rw [ih (l.drop 76).length (by rw [List.length_drop]; omega) (l.drop 76) rfl, List.length_drop]
      omega
def plainB (t : List UInt8) : List UInt8 := t.filter fun c => decide (c ≠ 13 ∧ c ≠ 10)
theorem plain_id {l : List UInt8} (h : ∀ c ∈ l, c ≠ 13 ∧ c ≠ 10) : plainB l = l := by
  unfold plainB
  rw [List.filter_eq_self]
  intro c hc
  exact decide_eq_true (h c hc)
theorem plain_fold (l : List UInt8) : ∀ n, l.length = n → (∀ c ∈ l, c ≠ 13 ∧ c ≠ 10) → plainB (foldB l) = l := by
  intro n
  induction n using Nat.strongRecOn generalizing l with
  | ind n ih =>
    intro hn hl
    by_cases h : l = []
    · subst h
      rw [fold_nil]
      rfl
    · have hp : 0 < l.length := List.length_pos_iff.2 h
      have h1 := plain_id (l := l.take 76) (fun c hc => hl c (List.mem_of_mem_take hc))
      have h2 := ih (l.drop 76).length (by rw [List.length_drop]; omega) (l.drop 76) rfl (fun c hc => hl c (List.mem_of_mem_drop hc))
      rw [fold_cons h]
      unfold plainB at h1 h2 ⊢
      rw [List.filter_append, h1]
      have h3 : List.filter (fun c => decide (c ≠ 13 ∧ c ≠ 10)) (13 :: 10 :: foldB (l.drop 76)) = l.drop 76 := by
        rw [List.filter_cons_of_neg (by decide), List.filter_cons_of_neg (by decide), h2]
      rw [h3, List.take_append_drop]
def unfoldB (t : List UInt8) : Option (List UInt8) :=
  match decB (plainB t) with
  | some s => if foldB (encB s) = t then some s else none
  | none => none
theorem unfold_fold (s : List UInt8) : unfoldB (foldB (encB s)) = some s := by
  unfold unfoldB
  rw [plain_fold (encB s) _ rfl (fun c hc => ok_end (enc_ok s c hc)), dec_enc]
  simp
theorem fold_unfold {t s : List UInt8} (h : unfoldB t = some s) : foldB (encB s) = t := by
  unfold unfoldB at h
  cases hd : decB (plainB t) with
  | none => simp [hd] at h
  | some r =>
    simp only [hd] at h
    by_cases he : foldB (encB r) = t
    · rw [if_pos he, Option.some.injEq] at h
      rw [← h]
      exact he
    · rw [if_neg he] at h
      cases h
end Go.Proofs.YtjikghndoklajaaGreatDoor
namespace Go.Proofs.YtjikghndoklajaaGreatDoor

end Go.Proofs.YtjikghndoklajaaGreatDoor
namespace Go.Proofs.YtjikghndoklajaaGreatDoor

def tabV (n i : Nat) : Nat := match worthB (UInt8.ofNat i) with
  | some v => if v < n then v else 64
  | none => 64
theorem tab_zero (i : Nat) : tabV 0 i = 64 := by
  unfold tabV
  cases worthB (UInt8.ofNat i) <;> simp
theorem tab_step (n i : Nat) (hn : n < 64) (hi : i < 256) : tabV (n + 1) i = if i = (letterB n).toNat then n else tabV n i := by
  unfold tabV
  by_cases h : i = (letterB n).toNat
  · subst h
    rw [if_pos rfl, UInt8.ofNat_toNat, worth_letter n hn]
    simp
  · rw [if_neg h]
    cases hw : worthB (UInt8.ofNat i) with
    | none => rfl
    | some v =>
      obtain ⟨_, h2⟩ := letter_worth hw
      have hne : v ≠ n := fun e => h (by rw [← e, h2, UInt8.toNat_ofNat_of_lt' (by exact hi)])
      simp only
      by_cases h1 : v < n
      · rw [if_pos h1, if_pos (by omega)]
      · rw [if_neg h1, if_neg (by omega)]
theorem tab_some {c : UInt8} {v : Nat} (h : worthB c = some v) : tabV 64 c.toNat = v ∧ v < 64 := by
  have hv := (letter_worth h).1
  unfold tabV
  rw [UInt8.ofNat_toNat, h]
  exact ⟨if_pos hv, hv⟩
theorem tab_none {c : UInt8} (h : worthB c = none) : tabV 64 c.toNat = 64 := by
  unfold tabV
  rw [UInt8.ofNat_toNat, h]

def devS (v n : Nat) (out : List UInt8) : List UInt8 → Option (Nat × List UInt8)
  | [] => some (v, out)
  | c :: r => match worthB c with
    | some w => if 8 ≤ n + 6 then devS ((v * 64 + w) % 2 ^ (n + 6 - 8)) (n + 6 - 8) (out ++ [UInt8.ofNat ((v * 64 + w) / 2 ^ (n + 6 - 8))]) r else devS (v * 64 + w) (n + 6) out r
    | none => none
def trimB (t : List UInt8) : List UInt8 := if t.getLast? = some 61 then t.dropLast else t
def devDecB (t : List UInt8) : Option (List UInt8) := if t.length % 4 ≠ 0 then none else
  match devS 0 0 [] (trimB (trimB t)) with
  | some (v, out) => if v = 0 then some out else none
  | none => none

theorem dev_quad (w x y z : UInt8) (out r : List UInt8) : devS 0 0 out (w :: x :: y :: z :: r) = (match quadB w x y z with
    | some l => devS 0 0 (out ++ l) r
    | none => none) := by
  unfold quadB
  cases hw : worthB w with
  | none => simp [devS, hw]
  | some p =>
    cases hx : worthB x with
    | none => simp [devS, hw, hx]
    | some q =>
      cases hy : worthB y with
      | none => simp [devS, hw, hx, hy]
      | some a =>
        cases hz : worthB z with
        | none => simp [devS, hw, hx, hy, hz]
        | some b =>
          have hp := (letter_worth hw).1
          have hq := (letter_worth hx).1
          have ha := (letter_worth hy).1
          have hb := (letter_worth hz).1
          have e1 : ((0 * 64 + p) * 64 + q) / 2 ^ 4 = p * 4 + q / 16 := by omega
          have e2 : ((((0 * 64 + p) * 64 + q) % 2 ^ 4) * 64 + a) / 2 ^ 2 = q % 16 * 16 + a / 4 := by omega
          have e3 : ((((((0 * 64 + p) * 64 + q) % 2 ^ 4) * 64 + a) % 2 ^ 2) * 64 + b) / 2 ^ 0 = a % 4 * 64 + b := by omega
          rw [devS, hw]
          simp only
          rw [if_neg (by omega), devS, hx]
          simp only
          rw [if_pos (by omega), devS, hy]
          simp only
          rw [if_pos (by omega), devS, hz]
          simp only
          rw [if_pos (by omega)]
          simp only [Nat.reduceAdd, Nat.reduceSub]
          rw [e1, e2, e3, Nat.pow_zero, Nat.mod_one]
          simp
theorem trim_cons (a b : UInt8) (l : List UInt8) : trimB (a :: b :: l) = a :: trimB (b :: l) := by
  unfold trimB
  rw [List.getLast?_cons_cons]
  split <;> rfl
theorem trim_len64 (t : List UInt8) : (trimB t).length + 1 ≥ t.length := by
  unfold trimB
  split
  · rw [List.length_dropLast]; omega
  · omega
theorem trim_le (t : List UInt8) : (trimB t).length ≤ t.length := by
  unfold trimB
  split
  · rw [List.length_dropLast]; omega
  · omega
theorem trims_cons (w : UInt8) (l : List UInt8) (h : 3 ≤ l.length) : trimB (trimB (w :: l)) = w :: trimB (trimB l) := by
  match l, h with
  | b :: l, h =>
    rw [trim_cons]
    have := trim_len64 (b :: l)
    cases ht : trimB (b :: l) with
    | nil => rw [ht] at this; simp only [List.length_nil, List.length_cons] at this h; omega
    | cons c r => rw [trim_cons]
theorem trims_four (w x y z : UInt8) (r : List UInt8) (h : 3 ≤ r.length) : trimB (trimB (w :: x :: y :: z :: r)) = w :: x :: y :: z :: trimB (trimB r) := by
  rw [trims_cons _ _ (by simp only [List.length_cons]; omega), trims_cons _ _ (by simp only [List.length_cons]; omega), trims_cons _ _ (by simp only [List.length_cons]; omega), trims_cons _ _ h]
theorem trims_last (w x y z : UInt8) : trimB (trimB [w, x, y, z]) = if z = 61 then (if y = 61 then [w, x] else [w, x, y]) else [w, x, y, z] := by
  unfold trimB
  by_cases hz : z = 61
  · subst hz
    by_cases hy : y = 61
    · subst hy
      simp
    · simp [hy]
  · simp [hz]
theorem dev_last (w x y z : UInt8) (out : List UInt8) : (match devS 0 0 out (trimB (trimB [w, x, y, z])) with
    | some (v, o) => if v = 0 then some o else none
    | none => none) = (match lastB w x y z with
    | some l => some (out ++ l)
    | none => none) := by
  rw [trims_last]
  unfold lastB
  by_cases hz : z = 61
  · rw [if_pos hz, if_pos hz]
    by_cases hy : y = 61
    · rw [if_pos hy, if_pos hy]
      cases hw : worthB w with
      | none => simp [devS, hw]
      | some p =>
        cases hx : worthB x with
        | none => simp [devS, hw, hx]
        | some q =>
          have hp := (letter_worth hw).1
          have hq := (letter_worth hx).1
          have e1 : ((0 * 64 + p) * 64 + q) / 2 ^ 4 = p * 4 + q / 16 := by omega
          have e2 : ((0 * 64 + p) * 64 + q) % 2 ^ 4 = q % 16 := by omega
          rw [devS, hw]
          simp only
          rw [if_neg (by omega), devS, hx]
          simp only
          rw [if_pos (by omega)]
          simp only [Nat.reduceAdd, Nat.reduceSub]
          rw [e1, e2, devS]
          simp only
          split <;> rfl
    · rw [if_neg hy, if_neg hy]
      cases hw : worthB w with
      | none => simp [devS, hw]
      | some p =>
        cases hx : worthB x with
        | none => simp [devS, hw, hx]
        | some q =>
          cases hy2 : worthB y with
          | none => simp [devS, hw, hx, hy2]
          | some a =>
            have hp := (letter_worth hw).1
            have hq := (letter_worth hx).1
            have ha := (letter_worth hy2).1
            have e1 : ((0 * 64 + p) * 64 + q) / 2 ^ 4 = p * 4 + q / 16 := by omega
            have e2 : ((((0 * 64 + p) * 64 + q) % 2 ^ 4) * 64 + a) / 2 ^ 2 = q % 16 * 16 + a / 4 := by omega
            have e3 : ((((0 * 64 + p) * 64 + q) % 2 ^ 4) * 64 + a) % 2 ^ 2 = a % 4 := by omega
            rw [devS, hw]
            simp only
            rw [if_neg (by omega), devS, hx]
            simp only
            rw [if_pos (by omega), devS, hy2]
            simp only
            rw [if_pos (by omega)]
            simp only [Nat.reduceAdd, Nat.reduceSub]
            rw [e1, e2, e3, devS]
            simp only
            split
            · simp
            · rfl
  · rw [if_neg hz, if_neg hz, dev_quad]
    cases quadB w x y z with
    | none => rfl
    | some l => simp [devS]
theorem dev_dec_at : ∀ (t out : List UInt8), t.length % 4 = 0 → (match devS 0 0 out (trimB (trimB t)) with
    | some (v, o) => if v = 0 then some o else none
    | none => none) = (match decB t with
    | some l => some (out ++ l)
    | none => none)
  | [], out, _ => by simp [trimB, devS, decB]
  | [_], _, h => by simp at h
  | [_, _], _, h => by simp at h
  | [_, _, _], _, h => by simp at h
  | w :: x :: y :: z :: r, out, h => by
    rw [decB]
    by_cases hr : r = []
    · subst hr
      rw [if_pos rfl]
      exact dev_last w x y z out
    · have hl : 3 ≤ r.length := by
        have := List.length_pos_iff.2 hr
        simp at h
        omega
      rw [if_neg hr, trims_four _ _ _ _ _ hl, dev_quad]
      cases hq : quadB w x y z with
      | none => rfl
      | some l =>
        simp only
        rw [dev_dec_at r (out ++ l) (by simp at h; omega)]
        cases decB r with
        | none => rfl
        | some q => simp
theorem dev_dec (t : List UInt8) : devDecB t = decB t := by
  unfold devDecB
  by_cases h : t.length % 4 ≠ 0
  · rw [if_pos h]
    cases hd : decB t with
    | none => rfl
    | some s => exact absurd (dec_len hd) h
  · rw [if_neg h]
    have := dev_dec_at t [] (by omega)
    simp only [List.nil_append] at this
    rw [this]
    cases decB t <;> rfl
end Go.Proofs.YtjikghndoklajaaGreatDoor
