/-
  The document's answer of layer 10: a letter, a blank, names that are the same.
-/
import Derived.Test.YtneihcdeflfahaaDoorHdA
namespace Go.Proofs.YtneihcdeflfahaaDoor
open Go.RowKit

theorem r10low_any (c : UInt8) (w : World) : Calls Tryd.prog 34 #[.int .u8 (c.toNat : Int)] w fun e w' => e = .returned (.int .u8 ((lowH c).toNat : Int)) ∧ w' = w := by
  have hcl : c.toNat < 256 := c.toNat_lt
  by_cases h1 : 65 ≤ c.toNat
  · by_cases h2 : c.toNat ≤ 90
    · rw [low_in ⟨h1, h2⟩]
      go_enter Tryd.func34, Tryd.ntmps34
      go_wp2
      go_ret
      exact ⟨rfl, rfl⟩
    · rw [low_out (by omega)]
      go_enter Tryd.func34, Tryd.ntmps34
      go_wp2
      go_ret
      exact ⟨rfl, rfl⟩
  · rw [low_out (by omega)]
    go_enter Tryd.func34, Tryd.ntmps34
    go_wp2
    go_ret
    exact ⟨rfl, rfl⟩
theorem r10blank_any (c : UInt8) (w : World) : Calls Tryd.prog 30 #[.int .u8 (c.toNat : Int)] w fun e w' => e = .returned (.bool (blankH c)) ∧ w' = w := by
  rw [blank_val]
  by_cases h1 : c.toNat = 32
  · rw [decide_eq_true (.inl h1)]
    have f1 : ((c.toNat : Int) == 32) = true := by rw [beq_iff_eq]; omega
    clear h1
    go_enter Tryd.func30, Tryd.ntmps30
    go_wp2
    go_ret
    exact ⟨rfl, rfl⟩
  · have f1 : ((c.toNat : Int) == 32) = false := by rw [beq_eq_false_iff_ne]; omega
    by_cases h2 : c.toNat = 9
    · rw [decide_eq_true (.inr h2)]
      have f2 : ((c.toNat : Int) == 9) = true := by rw [beq_iff_eq]; omega
      clear h1 h2
      go_enter Tryd.func30, Tryd.ntmps30
      go_wp2
      go_ret
      exact ⟨rfl, rfl⟩
    · rw [decide_eq_false (by omega)]
      have f2 : ((c.toNat : Int) == 9) = false := by rw [beq_eq_false_iff_ne]; omega
      clear h1 h2
      go_enter Tryd.func30, Tryd.ntmps30
      go_wp2
      go_ret
      exact ⟨rfl, rfl⟩


set_option maxRecDepth 100000 in
set_option maxHeartbeats 2000000 in
theorem r10same_any (a b : ByteArray) (w : World) (hs : a.size ≤ 1000000) (hs2 : b.size ≤ 1000000) : Calls Tryd.prog 20 #[.string a, .string b] w fun e w' => e = .returned (.bool (sameH a.data.toList b.data.toList)) ∧ Below w.heap.size w w' := by
  by_cases hsz : a.size = b.size
  · have hall := same_all a b hsz
    have hno := same_step a b
    have HA := Lib.hid hall
    have HN := Lib.hid hno
    have hsz2 : a.size ≤ b.size := by omega
    have hq : ((a.size : Int) != (b.size : Int)) = false := by rw [bne_eq_false_iff_eq]; omega
    have Hsz := Lib.hid hsz
    clear hall hno hsz
    go_enter Tryd.func20, Tryd.ntmps20
    go_wp2
    go_loopw [5] (fun iv wr => ∃ i : Nat, i ≤ a.size ∧ iv = .int .i64 i ∧ Hid (∀ j (ha : j < a.size) (hb : j < b.size), j < i → lowH a[j] = lowH b[j]) ∧ Below w.heap.size w wr) (fun iv _ => a.size - (intOf iv).toNat)
    case atStart => exact ⟨0, by omega, rfl, Lib.hid (fun j _ _ h => by omega), Below.refl _ _⟩
    case round =>
      obtain ⟨i, hi, rfl, hj, hbr⟩ := hrel
      by_cases hlt : i < a.size
      · have hlb : i < b.size := by omega
        have hla := fun W => r10low_any a[i] W
        have hlo := fun W => r10low_any b[i] W
        have hno := HN.out i hlt hlb
        have hyes : lowH a[i] = lowH b[i] → ∀ j (ha : j < a.size) (hb : j < b.size), j < i + 1 → lowH a[j] = lowH b[j] := fun h j h1 h2 h3 => by
          rcases Nat.lt_or_ge j i with h4 | h4
          · exact hj.out j h1 h2 h4
          · obtain rfl : j = i := by omega
            exact h
        obtain ⟨x, hx⟩ : ∃ x, lowH a[i] = x := ⟨_, rfl⟩
        obtain ⟨y, hy⟩ : ∃ y, lowH b[i] = y := ⟨_, rfl⟩
        rw [hx] at hla
        rw [hy] at hlo
        rw [hx, hy] at hno hyes
        clear hx hy hj
        by_cases he : x = y
        · have Hy := Lib.hid (hyes he)
          have hne : ((x.toNat : Int) != (y.toNat : Int)) = false := by rw [he, bne_eq_false_iff_eq]
          clear hno hyes he
          go_wp2_with fail
          go_quiet (first | (with_reducible exact Calls.quiet_of_same (hla _)) | (with_reducible exact Calls.quiet_of_same (hlo _)))
          have hb2 := below_drewN hbr nq
          clear hbr
          go_wp2
          go_roundw
          case rel => exact ⟨i + 1, by omega, by go_num, Hy, hb2⟩
          case measure => simp [intOf]; omega
        · have Hy := Lib.hid (hno he)
          have hne : ((x.toNat : Int) != (y.toNat : Int)) = true := by
            rw [bne_iff_ne]
            exact fun e => he (UInt8.toNat_inj.1 (by omega))
          clear hno hyes he
          go_wp2_with fail
          go_quiet (first | (with_reducible exact Calls.quiet_of_same (hla _)) | (with_reducible exact Calls.quiet_of_same (hlo _)))
          have hb2 := below_drewN hbr nq
          clear hbr
          go_wp2
          go_ret
          exact ⟨by rw [Hy.out]; rfl, hb2⟩
      · have Hy := Lib.hid (HA.out fun j h1 h2 => hj.out j h1 h2 (by omega))
        clear hj
        go_wp2
        go_ret
        exact ⟨by rw [Hy.out]; rfl, hbr⟩
  · have hq : ((a.size : Int) != (b.size : Int)) = true := by rw [bne_iff_ne]; omega
    have Hy := Lib.hid (same_size a b hsz)
    clear hsz
    go_enter Tryd.func20, Tryd.ntmps20
    go_wp2
    go_ret
    exact ⟨by rw [Hy.out]; rfl, Below.refl _ _⟩
end Go.Proofs.YtneihcdeflfahaaDoor
