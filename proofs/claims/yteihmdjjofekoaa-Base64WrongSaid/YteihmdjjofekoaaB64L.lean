/-
  Folded letters byte by byte, and letters that are never decoded: plain facts, of no program.
-/
import Derived.Test.YteihmdjjofekoaaB64F
namespace Go.Proofs.Yteihmdjjofekoaa

/-- Behind m whole lines the folded letters go on as the letters do. -/
theorem fold_drop : ∀ (m : Nat) (l : List UInt8), 76 * m ≤ l.length → (foldB l).drop (78 * m) = foldB (l.drop (76 * m))
  | 0, l, _ => by simp
  | m + 1, l, h => by
    have hne : l ≠ [] := fun e => by
      rw [e] at h
      simp at h
    have ih := fold_drop m (l.drop 76) (by rw [List.length_drop]; omega)
    rw [List.drop_drop, show 76 + 76 * m = 76 * (m + 1) by omega] at ih
    rw [← ih, fold_cons hne, show 78 * (m + 1) = 76 + (2 + 78 * m) by omega, ← List.drop_drop, ← List.drop_drop]
    have hl : (l.take 76).length = 76 := by rw [List.length_take]; omega
    rw [List.drop_left' hl]
    rfl
section
variable {l : List UInt8} {m n : Nat}
theorem fold_get (hn : n < 76) (h : 76 * m + n < l.length) : (foldB l)[78 * m + n]? = l[76 * m + n]? := by
  have hne : l.drop (76 * m) ≠ [] := fun e => by
    have := List.drop_eq_nil_iff.1 e
    omega
  have e := fold_drop m l (by omega)
  rw [← List.getElem?_drop, e, fold_cons hne, List.getElem?_append_left (by rw [List.length_take, List.length_drop]; omega), List.getElem?_take, if_pos hn, List.getElem?_drop]
theorem fold_cr (h : 76 * m < l.length) : (foldB l)[78 * m + min 76 (l.length - 76 * m)]? = some 13 ∧ (foldB l)[78 * m + min 76 (l.length - 76 * m) + 1]? = some 10 := by
  have hne : l.drop (76 * m) ≠ [] := fun e => by
    have := List.drop_eq_nil_iff.1 e
    omega
  have e := fold_drop m l (by omega)
  have hl : ((l.drop (76 * m)).take 76).length = min 76 (l.length - 76 * m) := by rw [List.length_take, List.length_drop]
  rw [Nat.add_assoc, ← List.getElem?_drop, ← List.getElem?_drop, e, fold_cons hne]
  constructor
  · rw [List.getElem?_append_right (by omega), hl, Nat.sub_self]
    rfl
  · rw [List.getElem?_append_right (by omega), hl, show min 76 (l.length - 76 * m) + 1 - min 76 (l.length - 76 * m) = 1 by omega]
    rfl
theorem fold_size (l : List UInt8) : (foldB l).length = l.length + 2 * ((l.length + 75) / 76) := fold_len l _ rfl
end
/-- A letter is one of A to Z, a to z, 0 to 9, + and /. -/
theorem letter_range : ∀ v : Fin 64, (decide (65 ≤ (letterB v).toNat) && decide ((letterB v).toNat ≤ 90) || decide (97 ≤ (letterB v).toNat) && decide ((letterB v).toNat ≤ 122) || decide (48 ≤ (letterB v).toNat) && decide ((letterB v).toNat ≤ 57) || decide ((letterB v).toNat = 43) || decide ((letterB v).toNat = 47)) = true := by decide +kernel
theorem ok_range {c : UInt8} (h : letterOk c) : (65 ≤ c.toNat ∧ c.toNat ≤ 90) ∨ (97 ≤ c.toNat ∧ c.toNat ≤ 122) ∨ (48 ≤ c.toNat ∧ c.toNat ≤ 57) ∨ c.toNat = 43 ∨ c.toNat = 47 ∨ c.toNat = 61 := by
  rcases h with rfl | ⟨v, hv, rfl⟩
  · exact .inr (.inr (.inr (.inr (.inr rfl))))
  · have := letter_range ⟨v, hv⟩
    simp only [Bool.or_eq_true, Bool.and_eq_true, decide_eq_true_eq] at this
    rcases this with (((h | h) | h) | h) | h
    · exact .inl h
    · exact .inr (.inl h)
    · exact .inr (.inr (.inl h))
    · exact .inr (.inr (.inr (.inl h)))
    · exact .inr (.inr (.inr (.inr (.inl h))))
theorem dec_odd {t : List UInt8} (h : t.length % 4 ≠ 0) : decB t = none := by
  cases hd : decB t with
  | none => rfl
  | some s => exact absurd (dec_len hd) h
section
variable {s : List UInt8} {k : Nat} (hk : k < (encB s).length)
include hk
/-- One letter less is never decoded. -/
theorem dec_less : decB ((encB s).take k ++ (encB s).drop (k + 1)) = none := by
  apply dec_odd
  have := enc_len s
  simp only [List.length_append, List.length_take, List.length_drop]
  omega
/-- One letter more is never decoded. -/
theorem dec_more : decB (encB s ++ (encB s).take 1) = none := by
  apply dec_odd
  have := enc_len s
  simp only [List.length_append, List.length_take]
  omega
end
/-- With a byte that is no letter they are never decoded. -/
theorem dec_other {s : List UInt8} {k : Nat} (c : UInt8) (hc : ¬ ((65 ≤ c.toNat ∧ c.toNat ≤ 90) ∨ (97 ≤ c.toNat ∧ c.toNat ≤ 122) ∨ (48 ≤ c.toNat ∧ c.toNat ≤ 57) ∨ c.toNat = 43 ∨ c.toNat = 47 ∨ c.toNat = 61)) : decB ((encB s).take k ++ c :: (encB s).drop (k + 1)) = none :=
  dec_bad (c := c) (by simp) fun h => hc (ok_range h)
/-- Parts go on with one another: encoded and decoded. -/
theorem dec_parts {a : List UInt8} (ha : a.length % 3 = 0) (t : List UInt8) : decB (encB a ++ encB t) = some (a ++ t) := by
  rw [← enc_append t a ha, dec_enc]
end Go.Proofs.Yteihmdjjofekoaa
