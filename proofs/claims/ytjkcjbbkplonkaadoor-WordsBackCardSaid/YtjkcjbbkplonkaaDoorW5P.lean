/-
  What words.Plain comes to: told by the plain function.
-/
import Derived.Test.YtjkcjbbkplonkaaDoorW5F
import Derived.Test.YtjkcjbbkplonkaaDoorShelf
import Derived.WalkKit
import Derived.WalkSpells
import Derived.WalkLawsBesides
import Derived.Deep.QuietTactic
import Derived.BigQuiet
import Derived.Lib.Hide
namespace Go.Proofs.YtjkcjbbkplonkaaDoor
open Go.RowKit

theorem take_snocW (s : ByteArray) (k : Nat) (h : k < s.size) : s.data.toList.take (k + 1) = s.data.toList.take k ++ [s[k]] := by
  rw [List.take_succ_eq_append_getElem (by simpa using h)]; rfl
theorem all_snocW (s : ByteArray) (k : Nat) (h : k < s.size) : (s.data.toList.take (k + 1)).all inP = ((s.data.toList.take k).all inP && inP s[k]) := by
  rw [take_snocW s k h, List.all_append]
  simp
/-- A byte that is none of 32 to 126 fells the whole. -/
theorem all_falseW (s : ByteArray) (k : Nat) (h : k < s.size) (hp : inP s[k] = false) : plainW s.data.toList = false := by
  have h1 : s.data.toList.all inP = false := by
    rw [List.all_eq_false]
    exact ⟨s[k], by
      have : s[k] = s.data.toList[k]'(by simpa using h) := rfl
      rw [this]
      exact List.getElem_mem _, by rw [hp]; simp⟩
  unfold plainW
  rw [h1]
  rfl
theorem inP_lo {c : UInt8} (h : c.toNat < 32) : inP c = false := by unfold inP; rw [decide_eq_false (by omega)]; rfl
theorem inP_hi {c : UInt8} (h : 126 < c.toNat) : inP c = false := by unfold inP; rw [decide_eq_false (p := c.toNat ≤ 126) (by omega), Bool.and_false]
theorem inP_mid {c : UInt8} (h0 : 32 ≤ c.toNat) (h1 : c.toNat ≤ 126) : inP c = true := by unfold inP; rw [decide_eq_true h0, decide_eq_true h1]; rfl

set_option maxRecDepth 100000 in
set_option maxHeartbeats 2000000 in
theorem wplain_any (s : ByteArray) (m : Int) (w : World) (hs : s.size ≤ 1000000) (hm : w.cell? ⟨0, 0, none⟩ = some (.int .i64 m)) :
    Calls Tryd.prog 12 #[.string s] w fun e w' => e = .returned (.bool (plainW s.data.toList)) ∧ w = w' := by
  have hl : s.data.toList.length = s.size := rfl
  have Hl := Lib.hid hl
  clear hl
  go_enter Tryd.func12, Tryd.ntmps12
  go_wp2
  go_loop [3, 6] (fun _ iv => ∃ (k : Nat), k ≤ s.size ∧ iv = .int .i64 k ∧ (s.data.toList.take k).all inP = true) (fun _ iv => s.size - (intOf iv).toNat)
  case atStart => exact ⟨0, by omega, rfl, by simp⟩
  case round =>
    obtain ⟨k, hk, rfl, hal⟩ := hrel
    have Hal := Lib.hid hal
    clear hal
    by_cases hlt : k < s.size
    · have hsn := all_snocW s k hlt
      have hfl := all_falseW s k hlt
      obtain ⟨c, hc⟩ : ∃ c, s[k] = c := ⟨_, rfl⟩
      rw [hc] at hsn hfl
      by_cases h0 : c.toNat < 32
      · have hr := hfl (inP_lo h0)
        have Hr := Lib.hid hr
        have hlo : decide (((s[k]).toNat : Int) < 32) = true := by rw [hc]; exact decide_eq_true (by omega)
        clear hr hsn hfl hc
        go_wp2
        go_ret
        exact ⟨by rw [Hr.out]; rfl, rfl⟩
      · have hlo : decide (((s[k]).toNat : Int) < 32) = false := by rw [hc]; exact decide_eq_false (by omega)
        by_cases h1 : 126 < c.toNat
        · have hr := hfl (inP_hi h1)
          have Hr := Lib.hid hr
          have hhi : decide ((126 : Int) < ((s[k]).toNat : Int)) = true := by rw [hc]; exact decide_eq_true (by omega)
          clear hr hsn hfl hc
          go_wp2
          go_ret
          exact ⟨by rw [Hr.out]; rfl, rfl⟩
        · have hhi : decide ((126 : Int) < ((s[k]).toNat : Int)) = false := by rw [hc]; exact decide_eq_false (by omega)
          have hal2 : (s.data.toList.take (k + 1)).all inP = true := by rw [hsn, Hal.out, inP_mid (by omega) (by omega)]; rfl
          have Hal2 := Lib.hid hal2
          clear hal2 hsn hfl hc
          go_wp2
          go_round
          case rel => exact ⟨k + 1, by omega, by go_num, Hal2.out⟩
          case measure => simp [intOf]; omega
    · obtain rfl : k = s.size := by omega
      have hpl : Hid (plainW s.data.toList = !Lib.contains s.data.toList [61, 63]) := Lib.hid (by
        have h := Hal.out
        rw [List.take_of_length_le (by rw [Hl.out]; omega)] at h
        unfold plainW
        rw [h, contains_hasQ]
        rfl)
      have hcon := Tryd.strings_Contains s ⟨#[61, 63]⟩ m w (by omega) hm
      rw [show (⟨#[61, 63]⟩ : ByteArray).data.toList = [61, 63] from rfl] at hcon
      go_wp2_with (go_at_call 20; refine hcon.mono ?_; rintro e w2 ⟨rfl, rfl⟩)
      go_ret
      exact ⟨by rw [hpl.out]; rfl, rfl⟩
end Go.Proofs.YtjkcjbbkplonkaaDoor
