/-
  What lattice.rightByte and rightName come to, for any byte and any string, in any memory: told by plain functions on bytes. No condition but the model's own bound on a string's length.
-/
import Derived.Test.YtkjiaklpffnhlaaDoorRows
import Derived.WalkKit
import Derived.WalkSpells
import Derived.WalkLawsBesides
import Derived.Lib.Hide
namespace Go.Proofs.YtkjiaklpffnhlaaDoor
open Go.RowKit

/-- A byte of a name. -/
def okB (c : Int) : Bool := (decide (65 ≤ c) && decide (c ≤ 90)) || (decide (48 ≤ c) && decide (c ≤ 57)) || (c == 45)
def allOk (s : List UInt8) : Bool := s.all fun c => okB c.toNat
/-- A name. -/
def nameB (s : List UInt8) : Bool := decide (1 ≤ s.length) && decide (s.length ≤ 16) && allOk s
theorem allOk_nil : allOk [] = true := rfl
theorem allOk_succ (s : List UInt8) (k : Nat) (h : k < s.length) : allOk (s.take (k + 1)) = (allOk (s.take k) && okB s[k].toNat) := by
  unfold allOk
  rw [List.take_succ_eq_append_getElem h, List.all_append]; simp
theorem allOk_no (s : List UInt8) (k : Nat) (h : k < s.length) (hk : okB s[k].toNat = false) : allOk s = false := by
  unfold allOk
  rw [List.all_eq_false]
  exact ⟨s[k], by simp, by simp [hk]⟩

set_option maxHeartbeats 400000 in
theorem byte_any (c : Int) (w : World) :
    Calls Tryd.prog 59 #[.int .u8 c] w fun e w' => e = .returned (.bool (okB c)) ∧ w' = w := by
  by_cases h1 : 65 ≤ c <;> by_cases h2 : c ≤ 90 <;> by_cases h3 : 48 ≤ c <;> by_cases h4 : c ≤ 57 <;> by_cases h5 : c = 45
  all_goals first
    | (exfalso; omega)
    | (have hd : okB c = true := by unfold okB; simp [*]
       have h5' : (c == 45) = true := by simp [h5]
       rw [hd]; clear hd
       go_enter Tryd.func59, Tryd.ntmps59
       go_wp2
       go_ret
       exact ⟨rfl, rfl⟩)
    | (have hd : okB c = false := by unfold okB; simp [*]
       have h5' : (c == 45) = false := by simp [h5]
       rw [hd]; clear hd
       go_enter Tryd.func59, Tryd.ntmps59
       go_wp2
       go_ret
       exact ⟨rfl, rfl⟩)
    | (have hd : okB c = true := by unfold okB; simp [*]
       have h5' : (c == 45) = false := by simp [h5]
       rw [hd]; clear hd
       go_enter Tryd.func59, Tryd.ntmps59
       go_wp2
       go_ret
       exact ⟨rfl, rfl⟩)

set_option maxHeartbeats 800000 in
theorem name_any (s : ByteArray) (w : World) (hs : s.size ≤ maxLen) :
    Calls Tryd.prog 44 #[.string s] w fun e w' => e = .returned (.bool (nameB s.data.toList)) ∧ w' = w := by
  unfold maxLen at hs
  by_cases h1 : 1 ≤ s.size
  · by_cases h2 : s.size ≤ 16
    · have hn : nameB s.data.toList = allOk s.data.toList := by
        unfold nameB; simp; omega
      rw [hn]; clear hn
      go_enter Tryd.func44, Tryd.ntmps44
      go_wp2
      go_loop [14] (fun i => ∃ k : Nat, k ≤ s.size ∧ i = .int .i64 k ∧ allOk (s.data.toList.take k) = true) (fun i => s.size - (intOf i).toNat)
      case atStart => exact ⟨0, Nat.zero_le _, rfl, rfl⟩
      case round =>
        obtain ⟨k, hk, rfl, hall⟩ := hrel
        have Hall := Lib.hid hall
        clear hall
        by_cases hlt : k < s.size
        · have ht := allOk_succ s.data.toList k (by simpa using hlt)
          rw [Hall.out] at ht
          have eg : s.data.toList[k]'(by simpa using hlt) = s[k] := rfl
          rw [eg] at ht
          by_cases hb : okB s[k].toNat = true
          · rw [hb] at ht
            have Ht := Lib.hid ht
            clear ht eg
            go_wp2_with (go_at_call 59; refine (byte_any _ _).mono ?_; rintro e w' ⟨rfl, rfl⟩)
            go_round
            case rel => exact ⟨k + 1, by omega, by go_num, by rw [Ht.out]; rfl⟩
            case measure => simp [intOf]; omega
          · have hb' : okB s[k].toNat = false := by simpa using hb
            clear hb
            have hfin : allOk s.data.toList = false := allOk_no _ k (by simpa using hlt) (by rw [eg]; exact hb')
            have Hfin := Lib.hid hfin
            clear ht eg hfin
            go_wp2_with (go_at_call 59; refine (byte_any _ _).mono ?_; rintro e w' ⟨rfl, rfl⟩)
            go_ret
            exact ⟨by rw [Hfin.out]; rfl, rfl⟩
        · have hfin : allOk s.data.toList = true := by
            have := Hall.out
            rwa [List.take_of_length_le (by simp; omega)] at this
          have Hfin := Lib.hid hfin
          clear hfin
          go_wp2
          go_ret
          exact ⟨by rw [Hfin.out]; rfl, rfl⟩
    · have hn : nameB s.data.toList = false := by unfold nameB; simp; omega
      rw [hn]; clear hn
      go_enter Tryd.func44, Tryd.ntmps44
      go_wp2
      go_ret
      exact ⟨rfl, rfl⟩
  · have hn : nameB s.data.toList = false := by unfold nameB; simp; omega
    rw [hn]; clear hn
    go_enter Tryd.func44, Tryd.ntmps44
    go_wp2
    go_ret
    exact ⟨rfl, rfl⟩
end Go.Proofs.YtkjiaklpffnhlaaDoor
