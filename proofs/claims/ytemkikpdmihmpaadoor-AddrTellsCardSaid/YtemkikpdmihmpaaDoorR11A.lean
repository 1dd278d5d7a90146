/-
  The document's answer of layer 11: a letter, an atom, dots.
-/
import Derived.Test.YtemkikpdmihmpaaDoorAdD
import Derived.LoopIn
import Derived.Deep.LoopGhost
namespace Go.Proofs.YtemkikpdmihmpaaDoor
open Go.RowKit

theorem all_bytesA {p : UInt8 → Bool} (s : ByteArray) (h : ∀ i (hi : i < s.size), p s[i] = true) : s.data.toList.all p = true := by
  rw [List.all_eq_true]
  intro c hc
  obtain ⟨i, hi, rfl⟩ := List.mem_iff_getElem.1 hc
  exact h i (by simpa using hi)
theorem not_bytesA {p : UInt8 → Bool} (s : ByteArray) (i : Nat) (hi : i < s.size) (h : p s[i] = false) : s.data.toList.all p = false := by
  rw [List.all_eq_false]
  exact ⟨s[i], by
    have : s[i] = s.data.toList[i]'(by simpa using hi) := rfl
    rw [this]
    exact List.getElem_mem _, by rw [h]; simp⟩
theorem cons_at (s : ByteArray) (i : Nat) (hi : i < s.size) : s.data.toList.drop i = s[i] :: s.data.toList.drop (i + 1) := List.drop_eq_getElem_cons (by show i < s.size; exact hi)

set_option maxRecDepth 100000 in
set_option maxHeartbeats 2000000 in
theorem r11in_any (s : ByteArray) (c : UInt8) (w : World) (hs : s.size ≤ 1000000) : Calls Tryd.prog 46 #[.string s, .int .u8 (c.toNat : Int)] w fun e w' => e = .returned (.bool (s.data.toList.contains c)) ∧ w' = w := by
  obtain ⟨R, hR⟩ : ∃ R, s.data.toList.contains c = R := ⟨_, rfl⟩
  rw [hR]
  have HR := Lib.hid hR
  clear hR
  go_enter Tryd.func46, Tryd.ntmps46
  go_wp2
  go_loop [5] (fun iv => ∃ i : Nat, i ≤ s.size ∧ iv = .int .i64 i ∧ Hid ((s.data.toList.drop i).contains c = R)) (fun iv => s.size - (intOf iv).toNat)
  case atStart => exact ⟨0, by omega, rfl, Lib.hid HR.out⟩
  case round =>
    obtain ⟨i, hi, rfl, hc⟩ := hrel
    by_cases hlt : i < s.size
    · have hc2 := hc.out
      rw [cons_at s i hlt, List.contains_cons] at hc2
      obtain ⟨d, hd⟩ : ∃ d, s[i] = d := ⟨_, rfl⟩
      rw [hd] at hc2
      by_cases hq : c = d
      · have hn : ((s[i].toNat : Int) == (c.toNat : Int)) = true := by rw [hd, hq, beq_iff_eq]
        have hRt : true = R := by rw [← hc2, hq]; simp
        have HRt := Lib.hid hRt
        clear hc2 hd hq hRt hc
        go_wp2
        go_ret
        exact ⟨by rw [← HRt.out]; rfl, rfl⟩
      · have hn : ((s[i].toNat : Int) == (c.toNat : Int)) = false := by
          rw [hd, beq_eq_false_iff_ne]
          exact fun e => hq (UInt8.toNat_inj.1 (by omega))
        have Hn : Hid ((s.data.toList.drop (i + 1)).contains c = R) := Lib.hid (by
          rw [← hc2, beq_eq_false_iff_ne.2 hq, Bool.false_or])
        clear hc2 hd hq hc
        go_wp2
        go_round
        case rel => exact ⟨i + 1, by omega, by go_num, Hn⟩
        case measure => simp [intOf]; omega
    · have hc2 := hc.out
      rw [List.drop_of_length_le (by show s.size ≤ i; omega)] at hc2
      have HRt : Hid (false = R) := Lib.hid hc2
      clear hc2 hc
      go_wp2
      go_ret
      exact ⟨by rw [← HRt.out]; rfl, rfl⟩
set_option maxRecDepth 100000 in
theorem r11letter_any (c : UInt8) (w : World) : Calls Tryd.prog 31 #[.int .u8 (c.toNat : Int)] w fun e w' => e = .returned (.bool (atomC c)) ∧ w' = w := by
  have hi := fun W => r11in_any ⟨#[33, 35, 36, 37, 38, 39, 42, 43, 45, 47, 61, 63, 94, 95, 123, 124, 125, 126, 96]⟩ c W (by decide)
  obtain ⟨k, hk⟩ : ∃ k, marksA.contains c = k := ⟨_, rfl⟩
  have hi2 : ∀ W, Calls Tryd.prog 46 #[.string ⟨#[33, 35, 36, 37, 38, 39, 42, 43, 45, 47, 61, 63, 94, 95, 123, 124, 125, 126, 96]⟩, .int .u8 (c.toNat : Int)] W fun e w' => e = .returned (.bool k) ∧ w' = W := fun W => by
    rw [← hk]
    exact hi W
  unfold atomC
  rw [hk]
  clear hi hk
  by_cases h1 : 65 ≤ c.toNat ∧ c.toNat ≤ 90
  · rw [decide_eq_true h1]
    obtain ⟨h1, h2⟩ := h1
    have f1 : decide ((65 : Int) ≤ (c.toNat : Int)) = true := decide_eq_true (by omega)
    have f2 : decide ((c.toNat : Int) ≤ 90) = true := decide_eq_true (by omega)
    clear h1 h2
    go_enter Tryd.func31, Tryd.ntmps31
    go_wp2
    go_ret
    exact ⟨rfl, rfl⟩
  · rw [decide_eq_false h1, Bool.false_or]
    have f1 : decide ((65 : Int) ≤ (c.toNat : Int)) = false ∨ (decide ((65 : Int) ≤ (c.toNat : Int)) = true ∧ decide ((c.toNat : Int) ≤ 90) = false) := by
      by_cases h : 65 ≤ c.toNat
      · exact .inr ⟨decide_eq_true (by omega), decide_eq_false (by omega)⟩
      · exact .inl (decide_eq_false (by omega))
    have f2 : lowA c = true ∧ ((decide ((97 : Int) ≤ (c.toNat : Int)) = true ∧ decide ((c.toNat : Int) ≤ 122) = true) ∨ (decide ((97 : Int) ≤ (c.toNat : Int)) = false ∧ decide ((48 : Int) ≤ (c.toNat : Int)) = true ∧ decide ((c.toNat : Int) ≤ 57) = true)) ∨
        lowA c = false ∧ ((decide ((97 : Int) ≤ (c.toNat : Int)) = false ∧ decide ((48 : Int) ≤ (c.toNat : Int)) = false) ∨ (decide ((97 : Int) ≤ (c.toNat : Int)) = false ∧ decide ((48 : Int) ≤ (c.toNat : Int)) = true ∧ decide ((c.toNat : Int) ≤ 57) = false) ∨ (decide ((97 : Int) ≤ (c.toNat : Int)) = true ∧ decide ((c.toNat : Int) ≤ 122) = false ∧ decide ((48 : Int) ≤ (c.toNat : Int)) = true ∧ decide ((c.toNat : Int) ≤ 57) = false)) := by
      rcases low_cases c with ⟨h1, e⟩ | ⟨h1, h2, e⟩ | ⟨h1, h2, h3, e⟩ | ⟨h1, h2, e⟩ | ⟨h1, h2, h3, h4, e⟩
      · exact .inr ⟨e, .inl ⟨decide_eq_false (by omega), decide_eq_false (by omega)⟩⟩
      · exact .inl ⟨e, .inr ⟨decide_eq_false (by omega), decide_eq_true (by omega), decide_eq_true (by omega)⟩⟩
      · exact .inr ⟨e, .inr (.inl ⟨decide_eq_false (by omega), decide_eq_true (by omega), decide_eq_false (by omega)⟩)⟩
      · exact .inl ⟨e, .inl ⟨decide_eq_true (by omega), decide_eq_true (by omega)⟩⟩
      · exact .inr ⟨e, .inr (.inr ⟨decide_eq_true (by omega), decide_eq_false (by omega), decide_eq_true (by omega), decide_eq_false (by omega)⟩)⟩
    clear h1
    rcases f1 with f1 | ⟨f1, f3⟩ <;> rcases f2 with ⟨e, (⟨f4, f5⟩ | ⟨f4, f5, f6⟩)⟩ | ⟨e, (⟨f4, f5⟩ | ⟨f4, f5, f6⟩ | ⟨f4, f5, f6, f7⟩)⟩
    all_goals
      rw [e]
      clear e
      go_enter Tryd.func31, Tryd.ntmps31
      go_wp2_with (go_at_call 46; refine (hi2 _).mono ?_; rintro e w1 ⟨rfl, h9⟩; obtain rfl := h9.symm)
      go_ret
      exact ⟨rfl, rfl⟩

set_option maxRecDepth 100000 in
set_option maxHeartbeats 2000000 in
theorem r11atom_any (s : ByteArray) (w : World) (hs : s.size ≤ 1000000) : Calls Tryd.prog 24 #[.string s] w fun e w' => e = .returned (.bool (pieceA atomC s.data.toList)) ∧ w' = w := by
  have hyes : (∀ i (hi : i < s.size), atomC s[i] = true) → pieceA atomC s.data.toList = decide (0 < s.size) := fun h => by
    unfold pieceA
    rw [all_bytesA s h, Bool.and_true]
    by_cases h0 : s.size = 0
    · have e : s.data.toList = [] := List.eq_nil_of_length_eq_zero h0
      rw [e, decide_eq_false (by omega)]
      rfl
    · have e : s.data.toList ≠ [] := fun e => h0 (by have := congrArg List.length e; exact this)
      rw [decide_eq_true (by omega)]
      cases hd : s.data.toList with
      | nil => exact absurd hd e
      | cons _ _ => rfl
  have hno : ∀ i (hi : i < s.size), atomC s[i] = false → pieceA atomC s.data.toList = false := fun i hi h => by
    unfold pieceA
    rw [not_bytesA s i hi h, Bool.and_false]
  have HY := Lib.hid hyes
  have HN := Lib.hid hno
  clear hyes hno
  go_enter Tryd.func24, Tryd.ntmps24
  go_wp2
  go_loop [3] (fun iv => ∃ i : Nat, i ≤ s.size ∧ iv = .int .i64 i ∧ Hid (∀ j (ha : j < s.size), j < i → atomC s[j] = true)) (fun iv => s.size - (intOf iv).toNat)
  case atStart => exact ⟨0, by omega, rfl, Lib.hid (fun j _ h => by omega)⟩
  case round =>
    obtain ⟨i, hi, rfl, hj⟩ := hrel
    by_cases hlt : i < s.size
    · have Hno := Lib.hid (HN.out i hlt)
      have Hyes : Hid (atomC s[i] = true → ∀ j (ha : j < s.size), j < i + 1 → atomC s[j] = true) := Lib.hid fun h j h1 h3 => by
        rcases Nat.lt_or_ge j i with h4 | h4
        · exact hj.out j h1 h4
        · obtain rfl : j = i := by omega
          exact h
      have hl := fun W => r11letter_any s[i] W
      clear hj
      cases hq : atomC s[i] with
      | true =>
        have Hr := Lib.hid (Hyes.out hq)
        simp only [hq] at hl
        clear Hno Hyes hq
        go_wp2_with (go_at_call 31; refine (hl _).mono ?_; rintro e w1 ⟨rfl, h9⟩; obtain rfl := h9.symm)
        go_round
        case rel => exact ⟨i + 1, by omega, by go_num, Hr⟩
        case measure => simp [intOf]; omega
      | false =>
        have Hr := Lib.hid (Hno.out hq)
        simp only [hq] at hl
        clear Hno Hyes hq
        go_wp2_with (go_at_call 31; refine (hl _).mono ?_; rintro e w1 ⟨rfl, h9⟩; obtain rfl := h9.symm)
        go_ret
        exact ⟨by rw [Hr.out]; rfl, rfl⟩
    · have Hr := Lib.hid (HY.out fun j h1 => hj.out j h1 (by omega))
      clear hj
      go_wp2
      go_ret
      exact ⟨by rw [Hr.out]; rfl, rfl⟩

/-- Dots alone: each single, and within. -/
def dotsA (s : TextA) : Bool := okD 46 (fun _ => true) true s
theorem ok_two (p : UInt8 → Bool) : ∀ (s : TextA) (f : Bool), okD 46 p f s = (s.all (orDotA p) && okD 46 (fun _ => true) f s)
  | [], f => rfl
  | c :: r, f => by
    unfold okD
    rw [List.all_cons]
    by_cases hc : c = 46
    · rw [if_pos hc, if_pos hc, ok_two p r true]
      have : orDotA p c = true := by unfold orDotA; rw [hc]; rfl
      rw [this]
      cases f <;> cases r.all (orDotA p) <;> rfl
    · rw [if_neg hc, if_neg hc, ok_two p r false]
      have : orDotA p c = p c := by unfold orDotA; rw [beq_eq_false_iff_ne.2 hc, Bool.false_or]
      rw [this]
      cases p c <;> rfl
theorem dotted_two (p : UInt8 → Bool) (s : TextA) : dottedA p s = (s.all (orDotA p) && (dotsA s && decide (s.length ≤ 64))) := by
  unfold dottedA dotsA
  rw [joined_eq, ok_two]
  cases decide (s.length ≤ 64) <;> cases s.all (orDotA p) <;> simp

/-- What stands at the head of the loop. -/
def DotSt (s : ByteArray) (R : Bool) (i : Nat) (f : Bool) : Prop :=
  okD 46 (fun _ => true) f (s.data.toList.drop i) = R ∧ (f = true ↔ (i = 0 ∨ ∃ h : i - 1 < s.size, s[i - 1] = 46)) ∧ (0 < i → i = s.size → f = false)
theorem dot_next (s : ByteArray) (R : Bool) (i : Nat) (f : Bool) (hi : i < s.size) (h : DotSt s R i f) (h46 : s[i] ≠ 46) : DotSt s R (i + 1) false := by
  obtain ⟨q1, q2, q3⟩ := h
  rw [cons_at s i hi, okD, if_neg h46] at q1
  refine ⟨by rw [← q1]; rfl, ⟨fun h => (by cases h), fun h => ?_⟩, fun _ _ => rfl⟩
  rcases h with h | ⟨h1, h2⟩
  · omega
  · exact absurd h2 h46
theorem dot_dot (s : ByteArray) (R : Bool) (i : Nat) (hi : i < s.size) (h : DotSt s R i false) (h46 : s[i] = 46) (hl : i + 1 < s.size) : DotSt s R (i + 1) true := by
  obtain ⟨q1, q2, q3⟩ := h
  rw [cons_at s i hi, okD, if_pos h46] at q1
  exact ⟨by rw [← q1]; rfl, ⟨fun _ => .inr ⟨hi, h46⟩, fun _ => rfl⟩, fun _ h => (by omega)⟩
theorem dot_two (s : ByteArray) (R : Bool) (i : Nat) (hi : i < s.size) (h : DotSt s R i true) (h46 : s[i] = 46) : false = R := by
  obtain ⟨q1, q2, q3⟩ := h
  rw [cons_at s i hi, okD, if_pos h46] at q1
  exact q1
theorem dot_last (s : ByteArray) (R : Bool) (i : Nat) (f : Bool) (hi : i < s.size) (h : DotSt s R i f) (h46 : s[i] = 46) (hl : i = s.size - 1) : false = R := by
  obtain ⟨q1, q2, q3⟩ := h
  rw [cons_at s i hi, okD, if_pos h46, List.drop_of_length_le (by show s.size ≤ i + 1; omega)] at q1
  rw [← q1]
  cases f <;> rfl
theorem dot_end (s : ByteArray) (R : Bool) (f : Bool) (h : DotSt s R s.size f) : R = decide (1 ≤ s.size) := by
  obtain ⟨q1, q2, q3⟩ := h
  rw [List.drop_of_length_le (by show s.size ≤ s.size; omega)] at q1
  by_cases h0 : s.size = 0
  · have hf : f = true := q2.2 (.inl h0)
    rw [← q1, hf, decide_eq_false (by omega)]
    rfl
  · have hf : f = false := q3 (by omega) rfl
    rw [← q1, hf, decide_eq_true (by omega)]
    rfl

set_option maxRecDepth 100000 in
set_option maxHeartbeats 4000000 in
theorem r11dots_any (s : ByteArray) (w : World) (hs : s.size ≤ 1000000) : Calls Tryd.prog 32 #[.string s] w fun e w' => e = .returned (.bool (dotsA s.data.toList && decide (s.size ≤ 64))) ∧ w' = w := by
  obtain ⟨R, hR⟩ : ∃ R, dotsA s.data.toList = R := ⟨_, rfl⟩
  rw [hR]
  have h0 : DotSt s R 0 true := ⟨hR, by simp, fun h => (by omega)⟩
  clear hR
  go_enter Tryd.func32, Tryd.ntmps32
  go_wp2
  go_loop [3] (fun iv => ∃ (i : Nat) (f : Bool), i ≤ s.size ∧ iv = .int .i64 i ∧ DotSt s R i f) (fun iv => s.size - (intOf iv).toNat)
  case atStart => exact ⟨0, true, by omega, rfl, h0⟩
  case round =>
    obtain ⟨i, f, hi, rfl, hst⟩ := hrel
    by_cases hlt : i < s.size
    · by_cases h46 : s[i] = 46
      · have f1 : ((s[i].toNat : Int) == 46) = true := by rw [h46]; rfl
        by_cases hi0 : i = 0
        · have hf : f = true := hst.2.1.2 (.inl hi0)
          subst hf
          have HRf := Lib.hid (dot_two s R i hlt hst h46)
          subst hi0
          clear hst h46
          go_wp2
          go_ret
          exact ⟨by rw [← HRf.out]; rfl, rfl⟩
        · have n0 : ((i : Int) == 0) = false := by rw [beq_eq_false_iff_ne]; omega
          by_cases hl : i = s.size - 1
          · have n1 : ((i : Int) == (s.size : Int) - 1) = true := by rw [beq_iff_eq]; omega
            have HRf := Lib.hid (dot_last s R i f hlt hst h46 hl)
            clear hst h46 hl
            go_wp2
            go_ret
            exact ⟨by rw [← HRf.out]; rfl, rfl⟩
          · have n1 : ((i : Int) == (s.size : Int) - 1) = false := by rw [beq_eq_false_iff_ne]; omega
            obtain ⟨k, rfl⟩ : ∃ k, i = k + 1 := ⟨i - 1, by omega⟩
            have hk : k < s.size := by omega
            have n2 : (((k : Int) + 1) == 0) = false := by rw [beq_eq_false_iff_ne]; omega
            have n3 : (((k : Int) + 1) == (s.size : Int) - 1) = false := by rw [beq_eq_false_iff_ne]; omega
            clear n0 n1
            cases f with
            | true =>
              obtain ⟨hh, h5⟩ : ∃ h : k < s.size, s[k] = 46 := by
                rcases hst.2.1.1 rfl with h | h
                · omega
                · exact h
              have f2 : ((s[k].toNat : Int) == 46) = true := by rw [h5]; rfl
              have HRf := Lib.hid (dot_two s R (k + 1) hlt hst h46)
              clear hst h46 h5 hl
              go_wp2
              go_ret
              exact ⟨by rw [← HRf.out]; rfl, rfl⟩
            | false =>
              have h5 : s[k] ≠ 46 := fun e => by
                have h9 := hst.2.1.2 (.inr ⟨hk, e⟩)
                cases h9
              have f2 : ((s[k].toNat : Int) == 46) = false := by
                rw [beq_eq_false_iff_ne]
                exact fun e => h5 (UInt8.toNat_inj.1 (by show s[k].toNat = 46; omega))
              have Hn := Lib.hid (dot_dot s R (k + 1) hlt hst h46 (by omega))
              clear hst h46 h5 hl
              go_wp2
              go_round
              case rel => exact ⟨k + 1 + 1, true, by omega, by go_num, Hn.out⟩
              case measure => simp [intOf]; omega
      · have f1 : ((s[i].toNat : Int) == 46) = false := by
          rw [beq_eq_false_iff_ne]
          exact fun e => h46 (UInt8.toNat_inj.1 (by show s[i].toNat = 46; omega))
        have Hn := Lib.hid (dot_next s R i f hlt hst h46)
        clear hst h46
        go_wp2
        go_round
        case rel => exact ⟨i + 1, false, by omega, by go_num, Hn.out⟩
        case measure => simp [intOf]; omega
    · obtain rfl : i = s.size := by omega
      have HRe := Lib.hid (dot_end s R f hst)
      clear hst h0
      have he : Hid (decide ((s.size : Int) ≤ 64) = decide (s.size ≤ 64)) := Lib.hid (by
        by_cases h : s.size ≤ 64
        · rw [decide_eq_true h, decide_eq_true (by omega)]
        · rw [decide_eq_false h, decide_eq_false (by omega)])
      by_cases h1 : 1 ≤ s.size
      · go_wp2
        go_ret
        exact ⟨by rw [HRe.out, decide_eq_true h1, Bool.true_and]; first | rfl | (rw [← he.out]; rfl), rfl⟩
      · have h2 : s.size < 1 := by omega
        go_wp2
        go_ret
        exact ⟨by rw [HRe.out, decide_eq_false h1, Bool.false_and]; rfl, rfl⟩
end Go.Proofs.YtemkikpdmihmpaaDoor
