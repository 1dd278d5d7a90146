/-
  The document's answer of layer 4, written in Go: a digit, a byte's sign, a digit's number, told by the plain functions.
-/
import Derived.Test.YtfbnifioifghlaaDoorQ4F
import Derived.Test.YtfbnifioifghlaaDoorRows
import Derived.WalkKit
import Derived.WalkSpells
import Derived.WalkLawsBesides
import Derived.Laws.BytesArg
import Derived.LoopIn
import Derived.Deep.LoopGhost
namespace Go.Proofs.YtfbnifioifghlaaDoor
open Go.RowKit

theorem r4digit_any (v : Nat) (hv : v < 16) (w : World) : Calls Tryd.prog 26 #[.int .u8 (v : Int)] w fun e w' => e = .returned (.int .u8 ((digB v).toNat : Int)) ∧ w' = w := by
  by_cases h : v < 10
  · have e : ((digB v).toNat : Int) = 48 + (v : Int) := by
      unfold digB
      rw [if_pos h, UInt8.toNat_ofNat_of_lt' (by show _ < 256; omega)]
      push_cast
      rfl
    rw [e]
    clear e
    go_enter Tryd.func26, Tryd.ntmps26
    go_wp2
    go_ret
    exact ⟨rfl, rfl⟩
  · have e : ((digB v).toNat : Int) = 55 + (v : Int) := by
      unfold digB
      rw [if_neg h, UInt8.toNat_ofNat_of_lt' (by show _ < 256; omega)]
      push_cast
      rfl
    rw [e]
    clear e
    go_enter Tryd.func26, Tryd.ntmps26
    go_wp2
    go_ret
    exact ⟨rfl, rfl⟩
/-- A row of bytes just made, as a text. -/
theorem conv_one (c : UInt8) (W : World) : (convert 35 9 (.slice (some ⟨W.heap.size, 0, none⟩) 1 1)).run Tryd.prog (W.alloc (.cells #[.int .u8 (c.toNat : Int)] 5)) = .ok (.string ⟨#[c]⟩) (W.alloc (.cells #[.int .u8 (c.toNat : Int)] 5)) := by
  have := run_convert_bytes_arg (P := Tryd.prog) (W.alloc (.cells #[.int .u8 (c.toNat : Int)] 5)) 35 5 Tryd.underlying35 Tryd.underlying5 W.heap.size 0 1 1 [(c.toNat : Int)] rfl (fun i hi => by
    obtain rfl : i = 0 := by omega
    go_simp) 9 Tryd.underlying9
  rw [this]
  unfold strOfNums
  simp
theorem conv_three (a b c : UInt8) (W : World) : (convert 35 9 (.slice (some ⟨W.heap.size, 0, none⟩) 3 3)).run Tryd.prog (W.alloc (.cells #[.int .u8 (a.toNat : Int), .int .u8 (b.toNat : Int), .int .u8 (c.toNat : Int)] 5)) = .ok (.string ⟨#[a, b, c]⟩) (W.alloc (.cells #[.int .u8 (a.toNat : Int), .int .u8 (b.toNat : Int), .int .u8 (c.toNat : Int)] 5)) := by
  have := run_convert_bytes_arg (P := Tryd.prog) (W.alloc (.cells #[.int .u8 (a.toNat : Int), .int .u8 (b.toNat : Int), .int .u8 (c.toNat : Int)] 5)) 35 5 Tryd.underlying35 Tryd.underlying5 W.heap.size 0 3 3 [(a.toNat : Int), (b.toNat : Int), (c.toNat : Int)] rfl (fun i hi => by
    rcases (by omega : i = 0 ∨ i = 1 ∨ i = 2) with rfl | rfl | rfl <;> go_simp) 9 Tryd.underlying9
  rw [this]
  unfold strOfNums
  simp

theorem sign_plain {c : UInt8} {last : Bool} (h : plainQ c last = true) : signB c last = [c] := by unfold signB; rw [if_pos h]
theorem sign_coded {c : UInt8} {last : Bool} (h : plainQ c last = false) : signB c last = [61, digB (c.toNat / 16), digB (c.toNat % 16)] := by unfold signB; rw [if_neg (by rw [h]; simp)]
theorem plain_mid {c : UInt8} (last : Bool) (h1 : 33 ≤ c.toNat) (h2 : c.toNat ≤ 126) (h3 : c.toNat ≠ 61) : plainQ c last = true := by
  unfold plainQ
  rw [decide_eq_true h1, decide_eq_true h2, decide_eq_true (show c ≠ 61 from fun e => h3 (by rw [e]; rfl))]
  rfl
theorem plain_blank {c : UInt8} (h : c.toNat = 32 ∨ c.toNat = 9) (last : Bool) : plainQ c last = !last := by
  rcases h with h | h
  · obtain rfl : c = 32 := UInt8.toNat_inj.1 h
    cases last <;> decide
  · obtain rfl : c = 9 := UInt8.toNat_inj.1 h
    cases last <;> decide
theorem plain_no {c : UInt8} (last : Bool) (h : c.toNat = 61 ∨ 126 < c.toNat ∨ (c.toNat < 33 ∧ c.toNat ≠ 32 ∧ c.toNat ≠ 9)) : plainQ c last = false := by
  have h32 : c.toNat ≠ 32 → c ≠ 32 := fun h e => h (by rw [e]; rfl)
  have h9 : c.toNat ≠ 9 → c ≠ 9 := fun h e => h (by rw [e]; rfl)
  unfold plainQ
  rcases h with h | h | ⟨h1, h2, h3⟩
  · rw [decide_eq_false (show ¬ c ≠ 61 from fun e => e (UInt8.toNat_inj.1 h)), decide_eq_false (h32 (by omega)), decide_eq_false (h9 (by omega))]
    simp
  · rw [decide_eq_false (show ¬ c.toNat ≤ 126 by omega), decide_eq_false (h32 (by omega)), decide_eq_false (h9 (by omega))]
    simp
  · rw [decide_eq_false (show ¬ 33 ≤ c.toNat by omega), decide_eq_false (h32 h2), decide_eq_false (h9 h3)]
    simp

set_option maxRecDepth 100000 in
set_option maxHeartbeats 1600000 in
theorem r4sign_any (c : UInt8) (last : Bool) (w : World) : Calls Tryd.prog 15 #[.int .u8 (c.toNat : Int), .bool last] w fun e w' => e = .returned (.string ⟨(signB c last).toArray⟩) ∧ Below w.heap.size w w' := by
  have hcl : c.toNat < 256 := c.toNat_lt
  have hbw := Below.refl w.heap.size w
  have v1 := conv_one c w
  have v3 := conv_three 61 (digB (c.toNat / 16)) (digB (c.toNat % 16)) w
  have d1 : ∀ W, Calls Tryd.prog 26 #[.int .u8 ((c.toNat : Int) / 16)] W fun e w' => e = .returned (.int .u8 ((digB (c.toNat / 16)).toNat : Int)) ∧ w' = W := fun W => r4digit_any (c.toNat / 16) (by omega) W
  have d2 : ∀ W, Calls Tryd.prog 26 #[.int .u8 ((c.toNat : Int) % 16)] W fun e w' => e = .returned (.int .u8 ((digB (c.toNat % 16)).toNat : Int)) ∧ w' = W := fun W => r4digit_any (c.toNat % 16) (by omega) W
  rw [show ((61 : UInt8).toNat : Int) = 61 from rfl] at v3
  rcases (by omega : (33 ≤ c.toNat ∧ c.toNat < 61) ∨ (61 < c.toNat ∧ c.toNat ≤ 126) ∨ c.toNat = 61 ∨ c.toNat = 32 ∨ c.toNat = 9 ∨ c.toNat < 9 ∨ (10 ≤ c.toNat ∧ c.toNat ≤ 31) ∨ 126 < c.toNat) with h | h | h | h | h | h | h | h
  · have f0 : ((c.toNat : Int) != 61) = true := by rw [bne_iff_ne]; omega
    have g0 : 33 ≤ c.toNat := by omega
    have g1 : c.toNat ≤ 126 := by omega
    rw [show signB c last = [c] from sign_plain (by exact plain_mid last (by omega) (by omega) (by omega))]
    clear h
    go_enter Tryd.func15, Tryd.ntmps15
    go_wp2
    go_ret
    exact ⟨rfl, hbw.alloc (Nat.le_refl _) _⟩
  · have f0 : ((c.toNat : Int) != 61) = true := by rw [bne_iff_ne]; omega
    have g0 : 33 ≤ c.toNat := by omega
    have g1 : c.toNat ≤ 126 := by omega
    rw [show signB c last = [c] from sign_plain (by exact plain_mid last (by omega) (by omega) (by omega))]
    clear h
    go_enter Tryd.func15, Tryd.ntmps15
    go_wp2
    go_ret
    exact ⟨rfl, hbw.alloc (Nat.le_refl _) _⟩
  · have f0 : ((c.toNat : Int) != 61) = false := by rw [bne_eq_false_iff_eq]; omega
    have f1 : ((c.toNat : Int) == 32) = false := by rw [beq_eq_false_iff_ne]; omega
    have f2 : ((c.toNat : Int) == 9) = false := by rw [beq_eq_false_iff_ne]; omega
    have g0 : 61 ≤ c.toNat := by omega
    have g1 : c.toNat ≤ 61 := by omega
    rw [show signB c last = [61, digB (c.toNat / 16), digB (c.toNat % 16)] from sign_coded (by exact plain_no last (by omega))]
    clear h
    go_enter Tryd.func15, Tryd.ntmps15
    go_wp2_with fail
    refine (d1 _).mono ?_
    rintro e w2 ⟨rfl, hw2⟩
    obtain rfl := hw2.symm
    clear hw2
    go_wp2_with fail
    refine (d2 _).mono ?_
    rintro e w3 ⟨rfl, hw3⟩
    obtain rfl := hw3.symm
    clear hw3 d1 d2
    go_wp2
    go_ret
    exact ⟨rfl, hbw.alloc (Nat.le_refl _) _⟩
  · have f0 : ((c.toNat : Int) == 32) = true := by rw [beq_iff_eq]; omega
    have g0 : 32 ≤ c.toNat := by omega
    have g1 : c.toNat ≤ 32 := by omega
    cases last with
    | true =>
      rw [show signB c true = [61, digB (c.toNat / 16), digB (c.toNat % 16)] from sign_coded (by exact plain_blank (by omega) true)]
      clear h
      go_enter Tryd.func15, Tryd.ntmps15
      go_wp2_with fail
      refine (d1 _).mono ?_
      rintro e w2 ⟨rfl, hw2⟩
      obtain rfl := hw2.symm
      clear hw2
      go_wp2_with fail
      refine (d2 _).mono ?_
      rintro e w3 ⟨rfl, hw3⟩
      obtain rfl := hw3.symm
      clear hw3 d1 d2
      go_wp2
      go_ret
      exact ⟨rfl, hbw.alloc (Nat.le_refl _) _⟩
    | false =>
      rw [show signB c false = [c] from sign_plain (by exact plain_blank (by omega) false)]
      clear h
      go_enter Tryd.func15, Tryd.ntmps15
      go_wp2
      go_ret
      exact ⟨rfl, hbw.alloc (Nat.le_refl _) _⟩
  · have f0 : ((c.toNat : Int) == 32) = false := by rw [beq_eq_false_iff_ne]; omega
    have f1 : ((c.toNat : Int) == 9) = true := by rw [beq_iff_eq]; omega
    have g0 : 9 ≤ c.toNat := by omega
    have g1 : c.toNat ≤ 9 := by omega
    cases last with
    | true =>
      rw [show signB c true = [61, digB (c.toNat / 16), digB (c.toNat % 16)] from sign_coded (by exact plain_blank (by omega) true)]
      clear h
      go_enter Tryd.func15, Tryd.ntmps15
      go_wp2_with fail
      refine (d1 _).mono ?_
      rintro e w2 ⟨rfl, hw2⟩
      obtain rfl := hw2.symm
      clear hw2
      go_wp2_with fail
      refine (d2 _).mono ?_
      rintro e w3 ⟨rfl, hw3⟩
      obtain rfl := hw3.symm
      clear hw3 d1 d2
      go_wp2
      go_ret
      exact ⟨rfl, hbw.alloc (Nat.le_refl _) _⟩
    | false =>
      rw [show signB c false = [c] from sign_plain (by exact plain_blank (by omega) false)]
      clear h
      go_enter Tryd.func15, Tryd.ntmps15
      go_wp2
      go_ret
      exact ⟨rfl, hbw.alloc (Nat.le_refl _) _⟩
  · have f0 : ((c.toNat : Int) == 32) = false := by rw [beq_eq_false_iff_ne]; omega
    have f1 : ((c.toNat : Int) == 9) = false := by rw [beq_eq_false_iff_ne]; omega
    have g0 : c.toNat < 9 := by omega
    rw [show signB c last = [61, digB (c.toNat / 16), digB (c.toNat % 16)] from sign_coded (by exact plain_no last (by omega))]
    clear h
    go_enter Tryd.func15, Tryd.ntmps15
    go_wp2_with fail
    refine (d1 _).mono ?_
    rintro e w2 ⟨rfl, hw2⟩
    obtain rfl := hw2.symm
    clear hw2
    go_wp2_with fail
    refine (d2 _).mono ?_
    rintro e w3 ⟨rfl, hw3⟩
    obtain rfl := hw3.symm
    clear hw3 d1 d2
    go_wp2
    go_ret
    exact ⟨rfl, hbw.alloc (Nat.le_refl _) _⟩
  · have f0 : ((c.toNat : Int) == 32) = false := by rw [beq_eq_false_iff_ne]; omega
    have f1 : ((c.toNat : Int) == 9) = false := by rw [beq_eq_false_iff_ne]; omega
    have g0 : 10 ≤ c.toNat := by omega
    have g1 : c.toNat ≤ 31 := by omega
    rw [show signB c last = [61, digB (c.toNat / 16), digB (c.toNat % 16)] from sign_coded (by exact plain_no last (by omega))]
    clear h
    go_enter Tryd.func15, Tryd.ntmps15
    go_wp2_with fail
    refine (d1 _).mono ?_
    rintro e w2 ⟨rfl, hw2⟩
    obtain rfl := hw2.symm
    clear hw2
    go_wp2_with fail
    refine (d2 _).mono ?_
    rintro e w3 ⟨rfl, hw3⟩
    obtain rfl := hw3.symm
    clear hw3 d1 d2
    go_wp2
    go_ret
    exact ⟨rfl, hbw.alloc (Nat.le_refl _) _⟩
  · have f0 : ((c.toNat : Int) == 32) = false := by rw [beq_eq_false_iff_ne]; omega
    have f1 : ((c.toNat : Int) == 9) = false := by rw [beq_eq_false_iff_ne]; omega
    have g0 : 126 < c.toNat := by omega
    rw [show signB c last = [61, digB (c.toNat / 16), digB (c.toNat % 16)] from sign_coded (by exact plain_no last (by omega))]
    clear h
    go_enter Tryd.func15, Tryd.ntmps15
    go_wp2_with fail
    refine (d1 _).mono ?_
    rintro e w2 ⟨rfl, hw2⟩
    obtain rfl := hw2.symm
    clear hw2
    go_wp2_with fail
    refine (d2 _).mono ?_
    rintro e w3 ⟨rfl, hw3⟩
    obtain rfl := hw3.symm
    clear hw3 d1 d2
    go_wp2
    go_ret
    exact ⟨rfl, hbw.alloc (Nat.le_refl _) _⟩

theorem dig_beq (c : UInt8) (k : Nat) : (((digB k).toNat : Int) == (c.toNat : Int)) = decide (digB k = c) := by
  rw [Bool.eq_iff_iff, beq_iff_eq, decide_eq_true_eq]
  constructor
  · intro e
    exact UInt8.toNat_inj.1 (by omega)
  · rintro rfl
    rfl
theorem undig_none {c : UInt8} (h : ∀ u, u < 16 → digB u ≠ c) : undigB c = none := by
  cases hu : undigB c with
  | none => rfl
  | some v => exact absurd (dig_undig hu).2 (h v (dig_undig hu).1)

set_option maxRecDepth 100000 in
set_option maxHeartbeats 1600000 in
theorem r4val_any (c : UInt8) (w : World) : Calls Tryd.prog 17 #[.int .u8 (c.toNat : Int)] w fun e w' => e = .returned (.int .i64 (((undigB c).getD 16 : Nat) : Int)) ∧ w' = w := by
  have hcl : c.toNat < 256 := c.toNat_lt
  go_enter Tryd.func17, Tryd.ntmps17
  go_wp2
  go_loop [3] (fun kv => ∃ k : Nat, k ≤ 16 ∧ kv = .int .i64 k ∧ ∀ u, u < k → digB u ≠ c) (fun kv => 16 - (intOf kv).toNat)
  case atStart => exact ⟨0, by omega, rfl, fun u hu => by omega⟩
  case round =>
    obtain ⟨k, hk, rfl, hno⟩ := hrel
    by_cases hlt : k < 16
    · have hcall := fun W => r4digit_any k hlt W
      have hbq := dig_beq c k
      by_cases hz : digB k = c
      · rw [decide_eq_true hz] at hbq
        have hr : undigB c = some k := by rw [← hz]; exact undig_dig k hlt
        have Hr := Lib.hid hr
        clear hno hz hr
        go_wp2_with fail
        refine (hcall _).mono ?_
        rintro e w2 ⟨rfl, hw2⟩
        obtain rfl := hw2.symm
        clear hw2 hcall
        go_wp2
        go_ret
        exact ⟨by rw [Hr.out]; rfl, rfl⟩
      · rw [decide_eq_false hz] at hbq
        have hno2 : Hid (∀ u, u < k + 1 → digB u ≠ c) := Lib.hid fun u hu => by
          by_cases e : u = k
          · rw [e]; exact hz
          · exact hno u (by omega)
        clear hno hz
        go_wp2_with fail
        refine (hcall _).mono ?_
        rintro e w2 ⟨rfl, hw2⟩
        obtain rfl := hw2.symm
        clear hw2 hcall
        go_wp2
        exact ⟨⟨k + 1, by omega, by go_num, hno2.out⟩, by simp [intOf]; omega⟩
    · have hr : undigB c = none := undig_none fun u hu => hno u (by omega)
      have Hr := Lib.hid hr
      clear hno hr
      go_wp2
      go_ret
      exact ⟨by rw [Hr.out]; rfl, rfl⟩
end Go.Proofs.YtfbnifioifghlaaDoor
