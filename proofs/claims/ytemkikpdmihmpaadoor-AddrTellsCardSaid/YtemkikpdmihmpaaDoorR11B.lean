/-
  The document's answer of layer 11: whether an address is right, whether a name is plain.
-/
import Derived.Test.YtemkikpdmihmpaaDoorR11A
namespace Go.Proofs.YtemkikpdmihmpaaDoor
open Go.RowKit

theorem drop_id {p : UInt8 → Bool} : ∀ l : TextA, l.dropWhile p = l ↔ ∀ c, l.head? = some c → p c = false
  | [] => by simp
  | c :: r => by
    constructor
    · intro h d hd
      cases hd
      cases hc : p c with
      | false => rfl
      | true =>
        rw [List.dropWhile_cons, if_pos hc] at h
        have h1 := drop_len p r
        rw [h] at h1
        simp at h1
        omega
    · intro h
      rw [List.dropWhile_cons, if_neg (by rw [h c rfl]; simp)]
/-- Neither begins nor ends with a blank. -/
def endsA (s : TextA) : Bool := decide (s.head? ≠ some 32) && decide (s.getLast? ≠ some 32)
theorem trim_ends (s : TextA) : (Lib.trimB s 32 == s) = endsA s := by
  have hr : Lib.trimRightB s 32 = s ↔ s.getLast? ≠ some 32 := by
    unfold Lib.trimRightB
    have e : (s.reverse.dropWhile (· == 32)).reverse = s ↔ s.reverse.dropWhile (· == 32) = s.reverse := by
      constructor
      · intro h
        have := congrArg List.reverse h
        rwa [List.reverse_reverse] at this
      · intro h
        rw [h, List.reverse_reverse]
    rw [e, drop_id, List.head?_reverse]
    constructor
    · intro h h2
      have := h 32 h2
      simp at this
    · intro h c hc
      rw [beq_eq_false_iff_ne]
      rintro rfl
      exact h hc
  have hl : s.dropWhile (· == 32) = s ↔ s.head? ≠ some 32 := by
    rw [drop_id]
    constructor
    · intro h h2
      have := h 32 h2
      simp at this
    · intro h c hc
      rw [beq_eq_false_iff_ne]
      rintro rfl
      exact h hc
  unfold endsA
  rw [Bool.eq_iff_iff, beq_iff_eq, Bool.and_eq_true, decide_eq_true_eq, decide_eq_true_eq, ← hr, ← hl]
  unfold Lib.trimB Lib.trimLeftB
  constructor
  · intro h
    have h1 := drop_len (· == (32 : UInt8)) (Lib.trimRightB s 32)
    rw [h] at h1
    have h2 : (Lib.trimRightB s 32).Sublist s := by
      unfold Lib.trimRightB
      have := List.dropWhile_sublist (· == (32 : UInt8)) (l := s.reverse)
      have := this.reverse
      rwa [List.reverse_reverse] at this
    have h3 : Lib.trimRightB s 32 = s := h2.eq_of_length (by have := h2.length_le; omega)
    rw [h3] at h
    exact ⟨h, h3⟩
  · rintro ⟨h1, h2⟩
    rw [h2, h1]
theorem right_four (a : AddrA) (h1 : a.2.1.all (orDotA atomC) = true) (h2 : a.2.2.all (orDotA domC) = true) (h3 : a.1.all nameCA = true) :
    rightA a = ((dotsA a.2.1 && decide (a.2.1.length ≤ 64)) && ((dotsA a.2.2 && decide (a.2.2.length ≤ 64)) && (decide (a.1.length ≤ 64) && endsA a.1))) := by
  unfold rightA nameA
  rw [dotted_two, dotted_two, h1, h2, h3, trim_ends]
  cases decide (a.1.length ≤ 64) <;> cases endsA a.1 <;> simp
theorem right_local (a : AddrA) (h : a.2.1.all (orDotA atomC) = false) : rightA a = false := by
  unfold rightA
  rw [dotted_two, h]
  simp
theorem right_domain (a : AddrA) (h : a.2.2.all (orDotA domC) = false) : rightA a = false := by
  unfold rightA
  rw [dotted_two domC, h]
  simp
theorem right_name (a : AddrA) (h : a.1.all nameCA = false) : rightA a = false := by
  unfold rightA nameA
  rw [h]
  simp
theorem ends_at (s : ByteArray) (h : 0 < s.size) (hl : s.size - 1 < s.size) : endsA s.data.toList = (!(decide (s[0] = 32)) && !(decide (s[s.size - 1] = 32))) := by
  unfold endsA
  have e1 : s.data.toList.head? = some s[0] := by
    rw [List.head?_eq_getElem?, List.getElem?_eq_getElem (show 0 < s.data.toList.length from h)]
    rfl
  have e2 : s.data.toList.getLast? = some s[s.size - 1] := by
    rw [List.getLast?_eq_getElem?, List.getElem?_eq_getElem (show s.data.toList.length - 1 < s.data.toList.length from hl)]
    rfl
  rw [e1, e2]
  simp
theorem ends_nil (s : ByteArray) (h : s.size = 0) : endsA s.data.toList = true := by
  rw [List.eq_nil_of_length_eq_zero (show s.data.toList.length = 0 from h)]
  rfl
/-- A run that has gone so far. -/
theorem run_next {p : UInt8 → Bool} {s : ByteArray} {i : Nat} (hj : ∀ j (h : j < s.size), j < i → p s[j] = true) (hi : i < s.size) (h : p s[i] = true) : ∀ j (h : j < s.size), j < i + 1 → p s[j] = true := fun j h1 h3 => by
  rcases Nat.lt_or_ge j i with h4 | h4
  · exact hj j h1 h4
  · obtain rfl : j = i := by omega
    exact h
/-- A byte of a domain, or a dot. -/
theorem dom_cases (c : UInt8) : (orDotA domC c = true ∧ ((decide ((97 : Int) ≤ (c.toNat : Int)) = true ∧ decide ((c.toNat : Int) ≤ 122) = true) ∨ (decide ((97 : Int) ≤ (c.toNat : Int)) = false ∧ decide ((48 : Int) ≤ (c.toNat : Int)) = true ∧ decide ((c.toNat : Int) ≤ 57) = true) ∨
      (decide ((97 : Int) ≤ (c.toNat : Int)) = false ∧ decide ((48 : Int) ≤ (c.toNat : Int)) = false ∧ ((c.toNat : Int) == 45) = true) ∨ (decide ((97 : Int) ≤ (c.toNat : Int)) = false ∧ decide ((48 : Int) ≤ (c.toNat : Int)) = false ∧ ((c.toNat : Int) == 45) = false ∧ ((c.toNat : Int) == 46) = true))) ∨
    (orDotA domC c = false ∧ ((c.toNat : Int) == 45) = false ∧ ((c.toNat : Int) == 46) = false ∧ ((decide ((97 : Int) ≤ (c.toNat : Int)) = false ∧ decide ((48 : Int) ≤ (c.toNat : Int)) = false) ∨ (decide ((97 : Int) ≤ (c.toNat : Int)) = false ∧ decide ((48 : Int) ≤ (c.toNat : Int)) = true ∧ decide ((c.toNat : Int) ≤ 57) = false) ∨ (decide ((97 : Int) ≤ (c.toNat : Int)) = true ∧ decide ((c.toNat : Int) ≤ 122) = false ∧ decide ((48 : Int) ≤ (c.toNat : Int)) = true ∧ decide ((c.toNat : Int) ≤ 57) = false))) := by
  unfold orDotA domC
  by_cases h45 : c = 45
  · subst h45
    exact .inl ⟨rfl, .inr (.inr (.inl ⟨rfl, rfl, rfl⟩))⟩
  · by_cases h46 : c = 46
    · subst h46
      exact .inl ⟨rfl, .inr (.inr (.inr ⟨rfl, rfl, rfl, rfl⟩))⟩
    · have f1 : ((c.toNat : Int) == 45) = false := by
        rw [beq_eq_false_iff_ne]
        exact fun e => h45 (UInt8.toNat_inj.1 (by show c.toNat = 45; omega))
      have f2 : ((c.toNat : Int) == 46) = false := by
        rw [beq_eq_false_iff_ne]
        exact fun e => h46 (UInt8.toNat_inj.1 (by show c.toNat = 46; omega))
      rw [beq_eq_false_iff_ne.2 h45, beq_eq_false_iff_ne.2 h46, Bool.false_or, Bool.false_or]
      rcases low_cases c with ⟨h1, e⟩ | ⟨h1, h2, e⟩ | ⟨h1, h2, h3, e⟩ | ⟨h1, h2, e⟩ | ⟨h1, h2, h3, h4, e⟩
      · exact .inr ⟨e, f1, f2, .inl ⟨decide_eq_false (by omega), decide_eq_false (by omega)⟩⟩
      · exact .inl ⟨e, .inr (.inl ⟨decide_eq_false (by omega), decide_eq_true (by omega), decide_eq_true (by omega)⟩)⟩
      · exact .inr ⟨e, f1, f2, .inr (.inl ⟨decide_eq_false (by omega), decide_eq_true (by omega), decide_eq_false (by omega)⟩)⟩
      · exact .inl ⟨e, .inl ⟨decide_eq_true (by omega), decide_eq_true (by omega)⟩⟩
      · exact .inr ⟨e, f1, f2, .inr (.inr ⟨decide_eq_true (by omega), decide_eq_false (by omega), decide_eq_true (by omega), decide_eq_false (by omega)⟩)⟩

set_option maxRecDepth 100000 in
set_option maxHeartbeats 8000000 in
theorem r11right_any (a : AddrA) (w : World) (hs1 : a.1.length ≤ 1000000) (hs2 : a.2.1.length ≤ 1000000) (hs3 : a.2.2.length ≤ 1000000) : Calls Tryd.prog 15 #[addrV a] w fun e w' => e = .returned (.bool (rightA a)) ∧ Below w.heap.size w w' := by
  obtain ⟨X, hX⟩ : ∃ X, textQ a.1 = X := ⟨_, rfl⟩
  obtain ⟨Y, hY⟩ : ∃ Y, textQ a.2.1 = Y := ⟨_, rfl⟩
  obtain ⟨Z, hZ⟩ : ∃ Z, textQ a.2.2 = Z := ⟨_, rfl⟩
  have hXd : X.data.toList = a.1 := by rw [← hX]; rfl
  have hYd : Y.data.toList = a.2.1 := by rw [← hY]; rfl
  have hZd : Z.data.toList = a.2.2 := by rw [← hZ]; rfl
  have hXs : X.size ≤ 1000000 := by rw [← hX]; exact hs1
  have hYs : Y.size ≤ 1000000 := by rw [← hY]; exact hs2
  have hZs : Z.size ≤ 1000000 := by rw [← hZ]; exact hs3
  unfold addrV
  rw [hX, hY, hZ]
  obtain ⟨R, hR⟩ : ∃ R, rightA a = R := ⟨_, rfl⟩
  have H1 : Hid (∀ i (hi : i < Y.size), orDotA atomC Y[i] = false → false = R) := Lib.hid fun i hi h => by
    rw [← hR, right_local a (by rw [← hYd]; exact not_bytesA Y i hi h)]
  have H2 : Hid (∀ i (hi : i < Z.size), orDotA domC Z[i] = false → false = R) := Lib.hid fun i hi h => by
    rw [← hR, right_domain a (by rw [← hZd]; exact not_bytesA Z i hi h)]
  have H3 : Hid (∀ i (hi : i < X.size), nameCA X[i] = false → false = R) := Lib.hid fun i hi h => by
    rw [← hR, right_name a (by rw [← hXd]; exact not_bytesA X i hi h)]
  have H4 : Hid ((∀ i (hi : i < Y.size), orDotA atomC Y[i] = true) → (∀ i (hi : i < Z.size), orDotA domC Z[i] = true) → (∀ i (hi : i < X.size), nameCA X[i] = true) → ((dotsA Y.data.toList && decide (Y.size ≤ 64)) && ((dotsA Z.data.toList && decide (Z.size ≤ 64)) && (decide (X.size ≤ 64) && endsA X.data.toList))) = R) := Lib.hid fun h1 h2 h3 => by
    have := right_four a (by rw [← hYd]; exact all_bytesA Y h1) (by rw [← hZd]; exact all_bytesA Z h2) (by rw [← hXd]; exact all_bytesA X h3)
    rw [← hR, this, hXd, hYd, hZd]
    rw [← hX, ← hY, ← hZ]
    rfl
  rw [hR]
  obtain ⟨w0, hw0⟩ : ∃ w0, w.alloc (.cells #[.string X, .string Y, .string Z] 40) = w0 := ⟨_, rfl⟩
  have b0 : Below w.heap.size w w0 := by rw [← hw0]; exact (Below.refl _ _).alloc (Nat.le_refl _) _
  have hh : w0.heap[w.heap.size]? = some (.cells #[.string X, .string Y, .string Z] 40 (0, 0)) := by rw [← hw0]; exact heap_alloc_new w _
  have c0 : w0.cell? ⟨w.heap.size, 0, none⟩ = some (.string X) := Lib.cell_of_heap hh 0
  have c1 : w0.cell? ⟨w.heap.size, 1, none⟩ = some (.string Y) := Lib.cell_of_heap hh 1
  have c2 : w0.cell? ⟨w.heap.size, 2, none⟩ = some (.string Z) := Lib.cell_of_heap hh 2
  have B0 := Lib.hid b0
  have hd1 := r11dots_any Y w0 hYs
  have hd2 := r11dots_any Z w0 hZs
  clear hR hX hY hZ hXd hYd hZd hh b0 hs1 hs2 hs3
  go_enter Tryd.func15, Tryd.ntmps15
  go_wp2
  clear hw0
  go_loop [3] (fun iv => ∃ i : Nat, i ≤ Y.size ∧ iv = .int .i64 i ∧ Hid (∀ j (h : j < Y.size), j < i → orDotA atomC Y[j] = true)) (fun iv => Y.size - (intOf iv).toNat)
  case atStart => exact ⟨0, by omega, rfl, Lib.hid (fun j _ h => by omega)⟩
  case round =>
    obtain ⟨i, hi, rfl, hj⟩ := hrel
    by_cases hlt : i < Y.size
    · have hl := fun W => r11letter_any Y[i] W
      have Hno := Lib.hid (H1.out i hlt)
      have Hyes : Hid (orDotA atomC Y[i] = true → ∀ j (h : j < Y.size), j < i + 1 → orDotA atomC Y[j] = true) := Lib.hid fun h => run_next hj.out hlt h
      clear hj
      cases hq : atomC Y[i] with
      | true =>
        have Hr := Lib.hid (Hyes.out (by unfold orDotA; rw [hq, Bool.or_true]))
        simp only [hq] at hl
        clear Hno Hyes hq
        go_wp2_with (go_at_call 31; refine (hl _).mono ?_; rintro e w1 ⟨rfl, h9⟩; obtain rfl := h9.symm)
        go_round
        case rel => exact ⟨i + 1, by omega, by go_num, Hr⟩
        case measure => simp [intOf]; omega
      | false =>
        simp only [hq] at hl
        by_cases h46 : Y[i] = 46
        · have f1 : ((Y[i].toNat : Int) != 46) = false := by rw [h46]; rfl
          have Hr := Lib.hid (Hyes.out (by unfold orDotA; rw [h46]; rfl))
          clear Hno Hyes hq h46
          go_wp2_with (go_at_call 31; refine (hl _).mono ?_; rintro e w1 ⟨rfl, h9⟩; obtain rfl := h9.symm)
          go_round
          case rel => exact ⟨i + 1, by omega, by go_num, Hr⟩
          case measure => simp [intOf]; omega
        · have f1 : ((Y[i].toNat : Int) != 46) = true := by
            rw [bne_iff_ne]
            exact fun e => h46 (UInt8.toNat_inj.1 (by show Y[i].toNat = 46; omega))
          have Hr := Lib.hid (Hno.out (by unfold orDotA; rw [hq, beq_eq_false_iff_ne.2 h46]; rfl))
          clear Hno Hyes hq h46
          go_wp2_with (go_at_call 31; refine (hl _).mono ?_; rintro e w1 ⟨rfl, h9⟩; obtain rfl := h9.symm)
          go_ret
          exact ⟨by rw [← Hr.out]; rfl, B0.out⟩
    · have HY := Lib.hid (fun j (h : j < Y.size) => hj.out j h (by omega))
      clear hj
      go_wp2
      go_loop [4] (fun iv => ∃ i : Nat, i ≤ Z.size ∧ iv = .int .i64 i ∧ Hid (∀ j (h : j < Z.size), j < i → orDotA domC Z[j] = true)) (fun iv => Z.size - (intOf iv).toNat)
      case atStart => exact ⟨0, by omega, rfl, Lib.hid (fun j _ h => by omega)⟩
      case round =>
        obtain ⟨k, hk, rfl, hj⟩ := hrel
        by_cases hlk : k < Z.size
        · have Hno := Lib.hid (H2.out k hlk)
          have Hyes : Hid (orDotA domC Z[k] = true → ∀ j (h : j < Z.size), j < k + 1 → orDotA domC Z[j] = true) := Lib.hid fun h => run_next hj.out hlk h
          clear hj
          rcases dom_cases Z[k] with ⟨hq, hf⟩ | ⟨hq, f1, f2, hf⟩
          · have Hr := Lib.hid (Hyes.out hq)
            clear Hno Hyes hq
            rcases hf with ⟨f1, f2⟩ | ⟨f1, f2, f3⟩ | ⟨f1, f2, f3⟩ | ⟨f1, f2, f3, f4⟩
            all_goals
              go_wp2
              go_round
              case rel => exact ⟨k + 1, by omega, by go_num, Hr⟩
              case measure => simp [intOf]; omega
          · have Hr := Lib.hid (Hno.out hq)
            clear Hno Hyes hq
            rcases hf with ⟨f3, f4⟩ | ⟨f3, f4, f5⟩ | ⟨f3, f4, f5, f6⟩
            all_goals
              go_wp2
              go_ret
              exact ⟨by rw [← Hr.out]; rfl, B0.out⟩
        · have HZ := Lib.hid (fun j (h : j < Z.size) => hj.out j h (by omega))
          clear hj
          go_wp2
          go_loop [7] (fun iv => ∃ i : Nat, i ≤ X.size ∧ iv = .int .i64 i ∧ Hid (∀ j (h : j < X.size), j < i → nameCA X[j] = true)) (fun iv => X.size - (intOf iv).toNat)
          case atStart => exact ⟨0, by omega, rfl, Lib.hid (fun j _ h => by omega)⟩
          case round =>
            obtain ⟨n, hn, rfl, hj⟩ := hrel
            by_cases hln : n < X.size
            · have Hno := Lib.hid (H3.out n hln)
              have Hyes : Hid (nameCA X[n] = true → ∀ j (h : j < X.size), j < n + 1 → nameCA X[j] = true) := Lib.hid fun h => run_next hj.out hln h
              clear hj
              by_cases g1 : X[n].toNat < 32
              · have f1 : decide ((X[n].toNat : Int) < 32) = true := decide_eq_true (by omega)
                have Hr := Lib.hid (Hno.out (by unfold nameCA; rw [decide_eq_false (by omega)]))
                clear Hno Hyes g1
                go_wp2
                go_ret
                exact ⟨by rw [← Hr.out]; rfl, B0.out⟩
              · have f1 : decide ((X[n].toNat : Int) < 32) = false := decide_eq_false (by omega)
                by_cases g2 : 126 < X[n].toNat
                · have f2 : decide ((126 : Int) < (X[n].toNat : Int)) = true := decide_eq_true (by omega)
                  have Hr := Lib.hid (Hno.out (by unfold nameCA; rw [decide_eq_false (by omega)]))
                  clear Hno Hyes g1 g2
                  go_wp2
                  go_ret
                  exact ⟨by rw [← Hr.out]; rfl, B0.out⟩
                · have f2 : decide ((126 : Int) < (X[n].toNat : Int)) = false := decide_eq_false (by omega)
                  have Hr := Lib.hid (Hyes.out (by unfold nameCA; rw [decide_eq_true (by omega)]))
                  clear Hno Hyes g1 g2
                  go_wp2
                  go_round
                  case rel => exact ⟨n + 1, by omega, by go_num, Hr⟩
                  case measure => simp [intOf]; omega
            · have hend := H4.out HY.out HZ.out (fun j h => hj.out j h (by omega))
              clear hj
              obtain ⟨D1, hD1⟩ : ∃ D, (dotsA Y.data.toList && decide (Y.size ≤ 64)) = D := ⟨_, rfl⟩
              obtain ⟨D2, hD2⟩ : ∃ D, (dotsA Z.data.toList && decide (Z.size ≤ 64)) = D := ⟨_, rfl⟩
              rw [hD1] at hd1 hend
              rw [hD2] at hd2 hend
              clear hD1 hD2
              cases D1 with
              | false =>
                have Hr : Hid (false = R) := Lib.hid hend
                clear hend hd2
                go_wp2_with (go_at_call 32; refine hd1.mono ?_; rintro e w1 ⟨rfl, h9⟩; obtain rfl := h9.symm)
                go_ret
                exact ⟨by rw [← Hr.out]; rfl, B0.out⟩
              | true =>
                cases D2 with
                | false =>
                  have Hr : Hid (false = R) := Lib.hid hend
                  clear hend
                  go_wp2_with fail
                  refine hd1.mono ?_
                  rintro e w1 ⟨rfl, h9⟩
                  obtain rfl := h9.symm
                  clear h9
                  go_wp2_with fail
                  refine hd2.mono ?_
                  rintro e w1 ⟨rfl, h9⟩
                  obtain rfl := h9.symm
                  go_wp2
                  go_ret
                  exact ⟨by rw [← Hr.out]; rfl, B0.out⟩
                | true =>
                  rw [Bool.true_and, Bool.true_and] at hend
                  by_cases h64 : X.size ≤ 64
                  · rw [decide_eq_true h64, Bool.true_and] at hend
                    by_cases h0 : X.size = 0
                    · rw [ends_nil X h0] at hend
                      have Hr : Hid (true = R) := Lib.hid hend
                      have f0 : ((X.size : Int) == 0) = true := by rw [beq_iff_eq]; omega
                      clear hend h0
                      go_wp2_with fail
                      refine hd1.mono ?_
                      rintro e w1 ⟨rfl, h9⟩
                      obtain rfl := h9.symm
                      clear h9
                      go_wp2_with fail
                      refine hd2.mono ?_
                      rintro e w1 ⟨rfl, h9⟩
                      obtain rfl := h9.symm
                      go_wp2
                      go_ret
                      exact ⟨by rw [← Hr.out]; rfl, B0.out⟩
                    · have hp0 : 0 < X.size := by omega
                      have hpl : X.size - 1 < X.size := by omega
                      rw [ends_at X hp0 hpl] at hend
                      have f0 : ((X.size : Int) == 0) = false := by rw [beq_eq_false_iff_ne]; omega
                      obtain ⟨k1, hk1⟩ : ∃ k1, X.size - 1 = k1 := ⟨_, rfl⟩
                      have hkl : k1 < X.size := by omega
                      have hend2 : (!(decide (X[0] = 32)) && !(decide (X[k1] = 32))) = R := by
                        rw [← hend]
                        subst hk1
                        rfl
                      have hkc : ((X.size : Int) - 1) = (k1 : Int) := by omega
                      clear hend h0 hk1
                      by_cases g1 : X[0] = 32
                      · have f1 : ((X[0].toNat : Int) != 32) = false := by rw [g1]; rfl
                        have Hr : Hid (false = R) := Lib.hid (by rw [← hend2, decide_eq_true g1]; rfl)
                        clear hend2 g1
                        go_wp2_with fail
                        refine hd1.mono ?_
                        rintro e w1 ⟨rfl, h9⟩
                        obtain rfl := h9.symm
                        clear h9
                        go_wp2_with fail
                        refine hd2.mono ?_
                        rintro e w1 ⟨rfl, h9⟩
                        obtain rfl := h9.symm
                        go_wp2
                        go_ret
                        exact ⟨by rw [← Hr.out]; rfl, B0.out⟩
                      · have f1 : ((X[0].toNat : Int) != 32) = true := by
                          rw [bne_iff_ne]
                          exact fun e => g1 (UInt8.toNat_inj.1 (by show X[0].toNat = 32; omega))
                        obtain ⟨f2, hf2⟩ : ∃ f2, ((X[k1].toNat : Int) != 32) = f2 := ⟨_, rfl⟩
                        have Hr : Hid (f2 = R) := Lib.hid (by
                          rw [← hend2, decide_eq_false g1, ← hf2]
                          by_cases g2 : X[k1] = 32
                          · rw [decide_eq_true g2, g2]
                            rfl
                          · rw [decide_eq_false g2]
                            rw [show ((X[k1].toNat : Int) != 32) = true by
                              rw [bne_iff_ne]
                              exact fun e => g2 (UInt8.toNat_inj.1 (by show X[k1].toNat = 32; omega))]
                            rfl)
                        clear hend2 g1
                        go_wp2_with fail
                        refine hd1.mono ?_
                        rintro e w1 ⟨rfl, h9⟩
                        obtain rfl := h9.symm
                        clear h9
                        go_wp2_with fail
                        refine hd2.mono ?_
                        rintro e w1 ⟨rfl, h9⟩
                        obtain rfl := h9.symm
                        go_wp2
                        go_ret
                        exact ⟨by rw [← Hr.out]; rfl, B0.out⟩
                  · rw [decide_eq_false h64, Bool.false_and] at hend
                    have Hr : Hid (false = R) := Lib.hid hend
                    clear hend
                    go_wp2_with fail
                    refine hd1.mono ?_
                    rintro e w1 ⟨rfl, h9⟩
                    obtain rfl := h9.symm
                    clear h9
                    go_wp2_with fail
                    refine hd2.mono ?_
                    rintro e w1 ⟨rfl, h9⟩
                    obtain rfl := h9.symm
                    go_wp2
                    go_ret
                    exact ⟨by rw [← Hr.out]; rfl, B0.out⟩
end Go.Proofs.YtemkikpdmihmpaaDoor
