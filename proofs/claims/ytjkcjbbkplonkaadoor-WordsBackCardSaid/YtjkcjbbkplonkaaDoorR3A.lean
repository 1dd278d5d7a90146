/-
  The document's answer of layer 3, written in Go: a worth's letter, a bit of bytes: told by plain functions.
-/
import Derived.Test.YtjkcjbbkplonkaaDoorRows
import Derived.Test.YtjkcjbbkplonkaaDoorB64R
import Derived.WalkKit
import Derived.WalkSpells
import Derived.WalkLawsBesides
import Derived.Lib.Hide
namespace Go.Proofs.YtjkcjbbkplonkaaDoor
open Go.RowKit

theorem letter_num : ∀ v : Fin 64, (letterB v).toNat = if v.val < 26 then 65 + v.val else if v.val < 52 then 71 + v.val else if v.val < 62 then v.val - 4 else if v.val = 62 then 43 else 47 := by decide +kernel
set_option maxRecDepth 100000 in
set_option maxHeartbeats 1000000 in
theorem r3letter_any (v : Nat) (w : World) (hv : v < 64) :
    Calls Tryd.prog 23 #[.int .i64 v] w fun e w' => e = .returned (.int .u8 ((letterB v).toNat : Int)) ∧ w' = w := by
  have hl := letter_num ⟨v, hv⟩
  simp only at hl
  by_cases h1 : v < 26
  · rw [if_pos h1] at hl
    have hw : (65 : Int) + v = ((letterB v).toNat : Int) := by omega
    have Hw := Lib.hid hw
    clear hl hw
    go_enter Tryd.func23, Tryd.ntmps23
    go_wp2
    go_ret
    exact ⟨by rw [← Hw.out]; rfl, rfl⟩
  rw [if_neg h1] at hl
  by_cases h2 : v < 52
  · rw [if_pos h2] at hl
    have hw : (97 : Int) + v - 26 = ((letterB v).toNat : Int) := by omega
    have Hw := Lib.hid hw
    clear hl hw
    go_enter Tryd.func23, Tryd.ntmps23
    go_wp2
    go_ret
    exact ⟨by rw [← Hw.out]; rfl, rfl⟩
  rw [if_neg h2] at hl
  by_cases h3 : v < 62
  · rw [if_pos h3] at hl
    have hw : (48 : Int) + v - 52 = ((letterB v).toNat : Int) := by omega
    have Hw := Lib.hid hw
    clear hl hw
    go_enter Tryd.func23, Tryd.ntmps23
    go_wp2
    go_ret
    exact ⟨by rw [← Hw.out]; rfl, rfl⟩
  rw [if_neg h3] at hl
  by_cases h4 : v = 62
  · subst h4
    go_enter Tryd.func23, Tryd.ntmps23
    go_wp2
    go_ret
    exact ⟨rfl, rfl⟩
  · obtain rfl : v = 63 := by omega
    go_enter Tryd.func23, Tryd.ntmps23
    go_wp2
    go_ret
    exact ⟨rfl, rfl⟩

set_option maxRecDepth 100000 in
set_option maxHeartbeats 1000000 in
theorem r3bit_any (s : ByteArray) (i : Nat) (w : World) (hs : s.size < 4294967296) (hi : i < 4294967296) :
    Calls Tryd.prog 27 #[.string s, .int .i64 i] w fun e w' => e = .returned (.int .i64 (bitAt s.data.toList i)) ∧ w' = w := by
  by_cases h : i / 8 < s.size
  · have hv : (wrap64 (((s[i / 8]'h).toNat : Int) / 2 ^ (7 - i % 8))).tmod 2 = (bitAt s.data.toList i : Int) := by
      have hg : (s.data.toList.getD (i / 8) 0) = s[i / 8]'h := by
        rw [List.getD, List.getElem?_eq_getElem (by have : s.data.toList.length = s.size := rfl; omega)]
        rfl
      have hx := (s[i / 8]'h).toNat_lt
      unfold bitAt
      rw [hg]
      generalize (s[i / 8]'h).toNat = x at hx ⊢
      have e : ((x : Int) / 2 ^ (7 - i % 8)) = ((x / 2 ^ (7 - i % 8) : Nat) : Int) := by push_cast; rfl
      have hle : x / 2 ^ (7 - i % 8) ≤ x := Nat.div_le_self _ _
      rw [e]
      generalize x / 2 ^ (7 - i % 8) = y at hle ⊢
      rw [IntWalk.wrap64_in _ (by omega), Int.tmod_eq_emod_of_nonneg (Int.natCast_nonneg _)]
      omega
    have Hv := Lib.hid hv
    clear hv
    go_enter Tryd.func27, Tryd.ntmps27
    go_wp2
    go_ret
    exact ⟨by rw [← Hv.out]; rfl, rfl⟩
  · have hb : bitAt s.data.toList i = 0 := by
      unfold bitAt
      rw [List.getD, List.getElem?_eq_none (by have : s.data.toList.length = s.size := rfl; omega)]
      simp
    rw [hb]
    clear hb
    go_enter Tryd.func27, Tryd.ntmps27
    go_wp2
    go_ret
    exact ⟨rfl, rfl⟩
end Go.Proofs.YtjkcjbbkplonkaaDoor
