/-
  The document's answer of layer 5, written in Go: is a body plain: told by the plain function.
-/
import Derived.Test.YtjkcjbbkplonkaaDoorW5F
import Derived.Test.YtjkcjbbkplonkaaDoorRows
import Derived.WalkKit
import Derived.WalkSpells
import Derived.WalkLawsBesides
import Derived.Deep.QuietTactic
import Derived.BigQuiet
import Derived.IntWalk
import Derived.Lib.Hide
namespace Go.Proofs.YtjkcjbbkplonkaaDoor
open Go.RowKit

theorem take_snoc5 (s : ByteArray) (k : Nat) (h : k < s.size) : s.data.toList.take (k + 1) = s.data.toList.take k ++ [s[k]] := by
  rw [List.take_succ_eq_append_getElem (by simpa using h)]; rfl
theorem last5 (s : ByteArray) (j : Nat) (h : j < s.size) : (s.data.toList.take (j + 1)).getLast? = some s[j] := by
  rw [take_snoc5 s j h, List.getLast?_append]
  rfl
theorem plain_bad5 (s : ByteArray) (k : Nat) (h : plainW (s.data.toList.take k) = false) : plainW s.data.toList = false := by
  have := plainW_append (s.data.toList.drop k) h
  rw [List.take_append_drop] at this
  exact this
theorem inP_lo5 {c : UInt8} (h : c.toNat < 32) : inP c = false := by unfold inP; rw [decide_eq_false (by omega)]; rfl
theorem inP_hi5 {c : UInt8} (h : 126 < c.toNat) : inP c = false := by unfold inP; rw [decide_eq_false (p := c.toNat ≤ 126) (by omega), Bool.and_false]
theorem inP_mid5 {c : UInt8} (h0 : 32 ≤ c.toNat) (h1 : c.toNat ≤ 126) : inP c = true := by unfold inP; rw [decide_eq_true h0, decide_eq_true h1]; rfl
theorem byte_ne5 {c : UInt8} {n : Nat} (hn : n < 256) (h : c ≠ UInt8.ofNat n) : ((c.toNat : Int) == (n : Int)) = false := by
  rw [beq_eq_false_iff_ne]
  intro e
  exact h (UInt8.toNat_inj.1 (by rw [UInt8.toNat_ofNat_of_lt' (by show n < 256; omega)]; omega))

set_option maxRecDepth 100000 in
set_option maxHeartbeats 4000000 in
theorem r5plain_any (s : ByteArray) (w : World) (hs : s.size ≤ 1000000) :
    Calls Tryd.prog 13 #[.string s] w fun e w' => e = .returned (.bool (plainW s.data.toList)) ∧ w = w' := by
  have hl : s.data.toList.length = s.size := rfl
  have Hl := Lib.hid hl
  clear hl
  go_enter Tryd.func13, Tryd.ntmps13
  go_wp2
  go_loop [3] (fun iv => ∃ (k : Nat), k ≤ s.size ∧ iv = .int .i64 k ∧ plainW (s.data.toList.take k) = true) (fun iv => s.size - (intOf iv).toNat)
  case atStart => exact ⟨0, by omega, rfl, rfl⟩
  case round =>
    obtain ⟨k, hk, rfl, hal⟩ := hrel
    by_cases hlt : k < s.size
    · have hsn := plainW_snoc (s.data.toList.take k) s[k]
      rw [← take_snoc5 s k hlt, hal, Bool.true_and] at hsn
      have hbad := plain_bad5 s (k + 1)
      obtain ⟨c, hc⟩ : ∃ c, s[k] = c := ⟨_, rfl⟩
      rw [hc] at hsn
      clear hal
      by_cases h0 : c.toNat < 32
      · rw [inP_lo5 h0, Bool.false_and] at hsn
        have hr := hbad hsn
        have Hr := Lib.hid hr
        have hlo : decide (((s[k]).toNat : Int) < 32) = true := by rw [hc]; exact decide_eq_true (by omega)
        clear hr hsn hbad hc
        go_wp2
        go_ret
        exact ⟨by rw [Hr.out]; rfl, rfl⟩
      · have hlo : decide (((s[k]).toNat : Int) < 32) = false := by rw [hc]; exact decide_eq_false (by omega)
        by_cases h1 : 126 < c.toNat
        · rw [inP_hi5 h1, Bool.false_and] at hsn
          have hr := hbad hsn
          have Hr := Lib.hid hr
          have hhi : decide ((126 : Int) < ((s[k]).toNat : Int)) = true := by rw [hc]; exact decide_eq_true (by omega)
          clear hr hsn hbad hc
          go_wp2
          go_ret
          exact ⟨by rw [Hr.out]; rfl, rfl⟩
        · have hhi : decide ((126 : Int) < ((s[k]).toNat : Int)) = false := by rw [hc]; exact decide_eq_false (by omega)
          rw [inP_mid5 (by omega) (by omega), Bool.true_and] at hsn
          rcases Nat.eq_zero_or_pos k with hk0 | hk0
          · subst hk0
            have hgo : plainW (s.data.toList.take (0 + 1)) = true := by rw [hsn]; rfl
            have Hgo := Lib.hid hgo
            clear hgo hsn hbad hc
            go_wp2
            go_round
            case rel => exact ⟨1, by omega, rfl, Hgo.out⟩
            case measure => simp [intOf]; omega
          · obtain ⟨j, rfl⟩ : ∃ j, k = j + 1 := ⟨k - 1, by omega⟩
            have hj : j < s.size := by omega
            rw [last5 s j hj] at hsn
            have hw1 : IntKind.i64.wrap ((j : Int) + 1 - 1) = (j : Int) := by rw [IntWalk.i64_in _ (by omega)]; omega
            have hp1 : decide ((0 : Int) < (j : Int) + 1) = true := decide_eq_true (by omega)
            by_cases h61 : s[j] = 61
            · have e61 : (((s[j]).toNat : Int) == 61) = true := by rw [h61]; rfl
              by_cases h63 : c = 63
              · have e63 : (((s[j + 1]).toNat : Int) == 63) = true := by rw [hc, h63]; rfl
                rw [h61, h63] at hsn
                have hr := hbad (by rw [hsn]; decide)
                have Hr := Lib.hid hr
                clear hr hsn hbad hc h61
                go_wp2
                go_ret
                exact ⟨by rw [Hr.out]; rfl, rfl⟩
              · have e63 : (((s[j + 1]).toNat : Int) == 63) = false := by rw [hc]; exact byte_ne5 (n := 63) (by omega) h63
                rw [decide_eq_false h63, Bool.and_false] at hsn
                have Hgo := Lib.hid hsn
                clear hsn hbad hc h61
                go_wp2
                go_round
                case rel => exact ⟨j + 1 + 1, by omega, by go_num, Hgo.out⟩
                case measure => simp [intOf]; omega
            · have e61 : (((s[j]).toNat : Int) == 61) = false := byte_ne5 (n := 61) (by omega) h61
              rw [decide_eq_false (by intro e; exact h61 (Option.some.inj e)), Bool.false_and] at hsn
              have Hgo := Lib.hid hsn
              clear hsn hbad hc h61
              go_wp2
              go_round
              case rel => exact ⟨j + 1 + 1, by omega, by go_num, Hgo.out⟩
              case measure => simp [intOf]; omega
    · obtain rfl : k = s.size := by omega
      have hfin : plainW s.data.toList = true := by
        rw [List.take_of_length_le (by rw [Hl.out]; omega)] at hal
        exact hal
      have Hfin := Lib.hid hfin
      clear hfin hal
      go_wp2
      go_ret
      exact ⟨by rw [Hfin.out]; rfl, rfl⟩
end Go.Proofs.YtjkcjbbkplonkaaDoor
