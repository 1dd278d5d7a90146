/-
  What addr's questions of one byte come to: told by the plain functions.
-/
import Derived.Test.YtemkikpdmihmpaaDoorA11P
import Derived.Test.YtemkikpdmihmpaaDoorRows
import Derived.Test.YtemkikpdmihmpaaDoorShelf
import Derived.WalkKit
import Derived.WalkSpells
import Derived.WalkLawsBesides
import Derived.BigQuiet
import Derived.WalkSmall
import Derived.Below
import Derived.Lib.IndexBytes
import Derived.Lib.IndexAny
import Derived.Deep.QuietTactic
import Derived.Deep.RegionWith
import Derived.Lib.Hide
namespace Go.Proofs.YtemkikpdmihmpaaDoor
open Go.RowKit

theorem low_cases (c : UInt8) : (c.toNat < 48 ∧ lowA c = false) ∨ (48 ≤ c.toNat ∧ c.toNat ≤ 57 ∧ lowA c = true) ∨ (57 < c.toNat ∧ 48 ≤ c.toNat ∧ c.toNat < 97 ∧ lowA c = false) ∨ (97 ≤ c.toNat ∧ c.toNat ≤ 122 ∧ lowA c = true) ∨ (122 < c.toNat ∧ 97 ≤ c.toNat ∧ 48 ≤ c.toNat ∧ 57 < c.toNat ∧ lowA c = false) := by
  unfold lowA
  by_cases h1 : c.toNat < 48
  · exact .inl ⟨h1, by simp; omega⟩
  · by_cases h2 : c.toNat ≤ 57
    · exact .inr (.inl ⟨by omega, h2, by simp; omega⟩)
    · by_cases h3 : c.toNat < 97
      · exact .inr (.inr (.inl ⟨by omega, by omega, h3, by simp; omega⟩))
      · by_cases h4 : c.toNat ≤ 122
        · exact .inr (.inr (.inr (.inl ⟨by omega, h4, by simp; omega⟩)))
        · exact .inr (.inr (.inr (.inr ⟨by omega, by omega, by omega, by omega, by simp; omega⟩)))
set_option maxRecDepth 100000 in
theorem alow_any (c : UInt8) (w : World) : Calls Tryd.prog 44 #[.int .u8 (c.toNat : Int)] w fun e w' => e = .returned (.bool (lowA c)) ∧ w' = w := by
  rcases low_cases c with ⟨h1, e⟩ | ⟨h1, h2, e⟩ | ⟨h1, h2, h3, e⟩ | ⟨h1, h2, e⟩ | ⟨h1, h2, h3, h4, e⟩
  all_goals
    rw [e]
    clear e
    go_enter Tryd.func44, Tryd.ntmps44
    go_wp2
    go_ret
    exact ⟨by first | rfl | exact congrArg (fun b => Ending.returned (Value.bool b)) (by simp <;> omega), rfl⟩
set_option maxRecDepth 100000 in
theorem ainname_any (c : UInt8) (w : World) : Calls Tryd.prog 42 #[.int .u8 (c.toNat : Int)] w fun e w' => e = .returned (.bool (nameCA c)) ∧ w' = w := by
  unfold nameCA
  by_cases h1 : 32 ≤ c.toNat
  · by_cases h2 : c.toNat ≤ 126
    · rw [decide_eq_true ⟨h1, h2⟩]
      go_enter Tryd.func42, Tryd.ntmps42
      go_wp2
      go_ret
      exact ⟨by first | rfl | exact congrArg (fun b => Ending.returned (Value.bool b)) (by simp <;> omega), rfl⟩
    · rw [decide_eq_false (by omega)]
      go_enter Tryd.func42, Tryd.ntmps42
      go_wp2
      go_ret
      exact ⟨by first | rfl | exact congrArg (fun b => Ending.returned (Value.bool b)) (by simp <;> omega), rfl⟩
  · rw [decide_eq_false (by omega)]
    go_enter Tryd.func42, Tryd.ntmps42
    go_wp2
    go_ret
    exact ⟨by first | rfl | exact congrArg (fun b => Ending.returned (Value.bool b)) (by simp <;> omega), rfl⟩
set_option maxRecDepth 100000 in
theorem aindom_any (c : UInt8) (w : World) : Calls Tryd.prog 30 #[.int .u8 (c.toNat : Int)] w fun e w' => e = .returned (.bool (domC c)) ∧ w' = w := by
  have hl := fun W => alow_any c W
  unfold domC
  by_cases h1 : c.toNat = 45
  · have e : (c == 45) = true := by rw [beq_iff_eq]; exact UInt8.toNat_inj.1 h1
    have f1 : ((c.toNat : Int) == 45) = true := by rw [beq_iff_eq]; omega
    rw [e]
    clear h1 e
    go_enter Tryd.func30, Tryd.ntmps30
    go_wp2_with (go_at_call 44; refine (hl _).mono ?_; rintro e w1 ⟨rfl, h9⟩; obtain rfl := h9.symm)
    go_ret
    exact ⟨by first | rfl | exact congrArg (fun b => Ending.returned (Value.bool b)) (by simp <;> omega), rfl⟩
  · have e : (c == 45) = false := by rw [beq_eq_false_iff_ne]; exact fun e => h1 (by rw [e]; rfl)
    have f1 : ((c.toNat : Int) == 45) = false := by rw [beq_eq_false_iff_ne]; omega
    rw [e, Bool.false_or]
    clear h1 e
    go_enter Tryd.func30, Tryd.ntmps30
    go_wp2_with (go_at_call 44; refine (hl _).mono ?_; rintro e w1 ⟨rfl, h9⟩; obtain rfl := h9.symm)
    go_ret
    exact ⟨by first | rfl | exact congrArg (fun b => Ending.returned (Value.bool b)) (by simp <;> omega), rfl⟩
set_option maxRecDepth 100000 in
theorem ainatom_any (c : UInt8) (w : World) : Calls Tryd.prog 29 #[.int .u8 (c.toNat : Int)] w fun e w' => e = .returned (.bool (atomC c)) ∧ w' = w := by
  have hl := fun W => alow_any c W
  have hi := fun W => Tryd.strings_IndexByte ⟨#[33, 35, 36, 37, 38, 39, 42, 43, 45, 47, 61, 63, 94, 95, 123, 124, 125, 126, 96]⟩ (c.toNat : Int) W
  rw [show ((c.toNat : Int)).toNat.toUInt8 = c by simp] at hi
  have hcon : decide ((0 : Int) ≤ Lib.indexByte (⟨#[33, 35, 36, 37, 38, 39, 42, 43, 45, 47, 61, 63, 94, 95, 123, 124, 125, 126, 96]⟩ : ByteArray).data.toList c) = marksA.contains c := (Lib.contains_iff_indexByte marksA c).symm
  obtain ⟨k, hk⟩ : ∃ k, Lib.indexByte (⟨#[33, 35, 36, 37, 38, 39, 42, 43, 45, 47, 61, 63, 94, 95, 123, 124, 125, 126, 96]⟩ : ByteArray).data.toList c = k := ⟨_, rfl⟩
  rw [hk] at hcon
  simp only [hk] at hi
  unfold atomC
  rw [← hcon]
  clear hcon hk
  obtain ⟨L, hL⟩ : ∃ L, lowA c = L := ⟨_, rfl⟩
  rw [hL]
  simp only [hL] at hl
  clear hL
  by_cases h1 : 65 ≤ c.toNat
  · by_cases h2 : c.toNat ≤ 90
    · rw [decide_eq_true ⟨h1, h2⟩]
      go_enter Tryd.func29, Tryd.ntmps29
      go_wp2
      go_ret
      exact ⟨by first | rfl | exact congrArg (fun b => Ending.returned (Value.bool b)) (by simp <;> omega), rfl⟩
    · rw [decide_eq_false (by omega), Bool.false_or]
      cases L
      all_goals
        go_enter Tryd.func29, Tryd.ntmps29
        go_wp2_with (first | (go_at_call 44; refine (hl _).mono ?_; rintro e w1 ⟨rfl, h9⟩; obtain rfl := h9.symm) | (go_at_call 45; refine (hi _).mono ?_; rintro e w1 ⟨rfl, h9⟩; obtain rfl := h9.symm))
        go_ret
        exact ⟨by first | rfl | exact congrArg (fun b => Ending.returned (Value.bool b)) (by simp <;> omega), rfl⟩
  · rw [decide_eq_false (by omega), Bool.false_or]
    cases L
    all_goals
      go_enter Tryd.func29, Tryd.ntmps29
      go_wp2_with (first | (go_at_call 44; refine (hl _).mono ?_; rintro e w1 ⟨rfl, h9⟩; obtain rfl := h9.symm) | (go_at_call 45; refine (hi _).mono ?_; rintro e w1 ⟨rfl, h9⟩; obtain rfl := h9.symm))
      go_ret
      exact ⟨by first | rfl | exact congrArg (fun b => Ending.returned (Value.bool b)) (by simp <;> omega), rfl⟩
end Go.Proofs.YtemkikpdmihmpaaDoor
