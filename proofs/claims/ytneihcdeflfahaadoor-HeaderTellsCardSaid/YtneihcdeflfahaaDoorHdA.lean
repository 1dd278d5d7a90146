/-
  What header.lower, Same and rightName come to: told by the plain functions.
-/
import Derived.Test.YtneihcdeflfahaaDoorH10Q
import Derived.Test.YtneihcdeflfahaaDoorRows
import Derived.WalkKit
import Derived.WalkSpells
import Derived.WalkLawsBesides
import Derived.BigQuiet
import Derived.WalkSmall
import Derived.Below
import Derived.Lib.IndexBytes
import Derived.Deep.QuietTactic
import Derived.Deep.RegionWith
import Derived.Lib.Hide
namespace Go.Proofs.YtneihcdeflfahaaDoor
open Go.RowKit

theorem low_in {c : UInt8} (h : 65 ≤ c.toNat ∧ c.toNat ≤ 90) : ((lowH c).toNat : Int) = (c.toNat : Int) + 32 := by
  unfold lowH
  rw [if_pos h, UInt8.toNat_add]
  show (((c.toNat + 32) % 256 : Nat) : Int) = _
  omega
theorem low_out {c : UInt8} (h : ¬ (65 ≤ c.toNat ∧ c.toNat ≤ 90)) : lowH c = c := by
  unfold lowH
  rw [if_neg h]
theorem hlower_any (c : UInt8) (w : World) : Calls Tryd.prog 33 #[.int .u8 (c.toNat : Int)] w fun e w' => e = .returned (.int .u8 ((lowH c).toNat : Int)) ∧ w' = w := by
  have hcl : c.toNat < 256 := c.toNat_lt
  by_cases h1 : 65 ≤ c.toNat
  · by_cases h2 : c.toNat ≤ 90
    · rw [low_in ⟨h1, h2⟩]
      go_enter Tryd.func33, Tryd.ntmps33
      go_wp2
      go_ret
      exact ⟨rfl, rfl⟩
    · rw [low_out (by omega)]
      go_enter Tryd.func33, Tryd.ntmps33
      go_wp2
      go_ret
      exact ⟨rfl, rfl⟩
  · rw [low_out (by omega)]
    go_enter Tryd.func33, Tryd.ntmps33
    go_wp2
    go_ret
    exact ⟨rfl, rfl⟩
theorem blank_val (c : UInt8) : blankH c = decide (c.toNat = 32 ∨ c.toNat = 9) := by
  unfold blankH
  rw [Bool.eq_iff_iff, Bool.or_eq_true, beq_iff_eq, beq_iff_eq, decide_eq_true_eq, ← UInt8.toNat_inj, ← UInt8.toNat_inj]
  rfl
/-- Two texts of one length are the same just if they are so byte by byte. -/
theorem same_step (a b : ByteArray) (i : Nat) (ha : i < a.size) (hb : i < b.size) (h : lowH a[i] ≠ lowH b[i]) : sameH a.data.toList b.data.toList = false := by
  unfold sameH
  rw [decide_eq_false_iff_not]
  intro e
  apply h
  have h1 : (a.data.toList.map lowH)[i]? = (b.data.toList.map lowH)[i]? := by rw [e]
  rw [List.getElem?_map, List.getElem?_map, Lib.data_getElem? a i ha, Lib.data_getElem? b i hb] at h1
  simpa using h1
theorem same_size (a b : ByteArray) (h : a.size ≠ b.size) : sameH a.data.toList b.data.toList = false := by
  unfold sameH
  rw [decide_eq_false_iff_not]
  intro e
  apply h
  have := congrArg List.length e
  simpa using this
theorem same_all (a b : ByteArray) (hs : a.size = b.size) (h : ∀ i (ha : i < a.size) (hb : i < b.size), lowH a[i] = lowH b[i]) : sameH a.data.toList b.data.toList = true := by
  unfold sameH
  rw [decide_eq_true_eq]
  refine List.ext_getElem (by simpa using hs) fun i h1 h2 => ?_
  have h3 : i < a.size := by simpa using h1
  have h4 : i < b.size := by simpa using h2
  rw [List.getElem_map, List.getElem_map]
  exact h i h3 h4


set_option maxRecDepth 100000 in
set_option maxHeartbeats 2000000 in
theorem hsame_any (a b : ByteArray) (w : World) (hs : a.size ≤ 1000000) (hs2 : b.size ≤ 1000000) : Calls Tryd.prog 19 #[.string a, .string b] w fun e w' => e = .returned (.bool (sameH a.data.toList b.data.toList)) ∧ Below w.heap.size w w' := by
  by_cases hsz : a.size = b.size
  · have hall := same_all a b hsz
    have hno := same_step a b
    have HA := Lib.hid hall
    have HN := Lib.hid hno
    have hsz2 : a.size ≤ b.size := by omega
    have hq : ((a.size : Int) != (b.size : Int)) = false := by rw [bne_eq_false_iff_eq]; omega
    have Hsz := Lib.hid hsz
    clear hall hno hsz
    go_enter Tryd.func19, Tryd.ntmps19
    go_wp2
    go_loopw [13] (fun iv wr => ∃ i : Nat, i ≤ a.size ∧ iv = .int .i64 i ∧ Hid (∀ j (ha : j < a.size) (hb : j < b.size), j < i → lowH a[j] = lowH b[j]) ∧ Below w.heap.size w wr) (fun iv _ => a.size - (intOf iv).toNat)
    case atStart => exact ⟨0, by omega, rfl, Lib.hid (fun j _ _ h => by omega), Below.refl _ _⟩
    case round =>
      obtain ⟨i, hi, rfl, hj, hbr⟩ := hrel
      by_cases hlt : i < a.size
      · have hlb : i < b.size := by omega
        have hla := fun W => hlower_any a[i] W
        have hlo := fun W => hlower_any b[i] W
        have hno := HN.out i hlt hlb
        have hyes : lowH a[i] = lowH b[i] → ∀ j (ha : j < a.size) (hb : j < b.size), j < i + 1 → lowH a[j] = lowH b[j] := fun h j h1 h2 h3 => by
          rcases Nat.lt_or_ge j i with h4 | h4
          · exact hj.out j h1 h2 h4
          · obtain rfl : j = i := by omega
            exact h
        obtain ⟨x, hx⟩ : ∃ x, lowH a[i] = x := ⟨_, rfl⟩
        obtain ⟨y, hy⟩ : ∃ y, lowH b[i] = y := ⟨_, rfl⟩
        rw [hx] at hla
        rw [hy] at hlo
        rw [hx, hy] at hno hyes
        clear hx hy hj
        by_cases he : x = y
        · have Hy := Lib.hid (hyes he)
          have hne : ((x.toNat : Int) != (y.toNat : Int)) = false := by rw [he, bne_eq_false_iff_eq]
          clear hno hyes he
          go_wp2_with fail
          go_quiet (first | (with_reducible exact Calls.quiet_of_same (hla _)) | (with_reducible exact Calls.quiet_of_same (hlo _)))
          have hb2 := below_drewN hbr nq
          clear hbr
          go_wp2
          go_roundw
          case rel => exact ⟨i + 1, by omega, by go_num, Hy, hb2⟩
          case measure => simp [intOf]; omega
        · have Hy := Lib.hid (hno he)
          have hne : ((x.toNat : Int) != (y.toNat : Int)) = true := by
            rw [bne_iff_ne]
            exact fun e => he (UInt8.toNat_inj.1 (by omega))
          clear hno hyes he
          go_wp2_with fail
          go_quiet (first | (with_reducible exact Calls.quiet_of_same (hla _)) | (with_reducible exact Calls.quiet_of_same (hlo _)))
          have hb2 := below_drewN hbr nq
          clear hbr
          go_wp2
          go_ret
          exact ⟨by rw [Hy.out]; rfl, hb2⟩
      · have Hy := Lib.hid (HA.out fun j h1 h2 => hj.out j h1 h2 (by omega))
        clear hj
        go_wp2
        go_ret
        exact ⟨by rw [Hy.out]; rfl, hbr⟩
  · have hq : ((a.size : Int) != (b.size : Int)) = true := by rw [bne_iff_ne]; omega
    have Hy := Lib.hid (same_size a b hsz)
    clear hsz
    go_enter Tryd.func19, Tryd.ntmps19
    go_wp2
    go_ret
    exact ⟨by rw [Hy.out]; rfl, Below.refl _ _⟩

/-- Bytes that a name may have. -/
def nameC (c : UInt8) : Bool := decide (33 ≤ c.toNat ∧ c.toNat ≤ 126 ∧ c ≠ 58)
def nameB (n : TextH) : Bool := decide (1 ≤ n.length ∧ n.length ≤ 64) && n.all nameC
def bodyC (c : UInt8) : Bool := decide (c ≠ 0 ∧ c ≠ 10 ∧ c ≠ 13)
def bodyB (b : TextH) : Bool := b.all bodyC && (!(goesH b) && !(goesH b.reverse))
theorem right_two (f : FieldH) : rightB f = (nameB f.1 && bodyB f.2) := by
  unfold rightB nameB bodyB nameC bodyC
  rw [Bool.and_assoc]
theorem all_bytes {p : UInt8 → Bool} (s : ByteArray) (h : ∀ i (hi : i < s.size), p s[i] = true) : s.data.toList.all p = true := by
  rw [List.all_eq_true]
  intro c hc
  obtain ⟨i, hi, rfl⟩ := List.mem_iff_getElem.1 hc
  exact h i (by simpa using hi)
theorem not_bytes {p : UInt8 → Bool} (s : ByteArray) (i : Nat) (hi : i < s.size) (h : p s[i] = false) : s.data.toList.all p = false := by
  rw [List.all_eq_false]
  exact ⟨s[i], by
    have : s[i] = s.data.toList[i]'(by simpa using hi) := rfl
    rw [this]
    exact List.getElem_mem _, by rw [h]; simp⟩
theorem nameC_yes {c : UInt8} (h1 : 33 ≤ c.toNat) (h2 : c.toNat ≤ 126) (h3 : c.toNat ≠ 58) : nameC c = true := by
  unfold nameC
  rw [decide_eq_true_eq]
  exact ⟨h1, h2, fun e => h3 (by rw [e]; rfl)⟩
theorem nameC_no {c : UInt8} (h : c.toNat < 33 ∨ 126 < c.toNat ∨ c.toNat = 58) : nameC c = false := by
  unfold nameC
  rw [decide_eq_false_iff_not]
  rintro ⟨h1, h2, h3⟩
  rcases h with h | h | h
  · omega
  · omega
  · exact h3 (UInt8.toNat_inj.1 h)
theorem bytes_len (s : ByteArray) : s.data.toList.length = s.size := rfl

set_option maxRecDepth 100000 in
set_option maxHeartbeats 2000000 in
theorem hname_any (s : ByteArray) (w : World) : Calls Tryd.prog 31 #[.string s] w fun e w' => e = .returned (.bool (nameB s.data.toList)) ∧ w' = w := by
  by_cases hsz : 1 ≤ s.size ∧ s.size ≤ 64
  · have hall : (∀ i (hi : i < s.size), nameC s[i] = true) → nameB s.data.toList = true := fun h => by
      unfold nameB
      rw [all_bytes s h, bytes_len, decide_eq_true hsz]
      rfl
    have hno : ∀ i (hi : i < s.size), nameC s[i] = false → nameB s.data.toList = false := fun i hi h => by
      unfold nameB
      rw [not_bytes s i hi h, Bool.and_false]
    have HA := Lib.hid hall
    have HN := Lib.hid hno
    obtain ⟨hs1, hs2⟩ := hsz
    clear hall hno
    go_enter Tryd.func31, Tryd.ntmps31
    go_wp2
    go_loop [14] (fun iv => ∃ i : Nat, i ≤ s.size ∧ iv = .int .i64 i ∧ Hid (∀ j (ha : j < s.size), j < i → nameC s[j] = true)) (fun iv => s.size - (intOf iv).toNat)
    case atStart => exact ⟨0, by omega, rfl, Lib.hid (fun j _ h => by omega)⟩
    case round =>
      obtain ⟨i, hi, rfl, hj⟩ := hrel
      by_cases hlt : i < s.size
      · have hno := HN.out i hlt
        have hyes : nameC s[i] = true → ∀ j (ha : j < s.size), j < i + 1 → nameC s[j] = true := fun h j h1 h3 => by
          rcases Nat.lt_or_ge j i with h4 | h4
          · exact hj.out j h1 h4
          · obtain rfl : j = i := by omega
            exact h
        have Hyes := Lib.hid hyes
        have Hno := Lib.hid hno
        clear hyes hno hj
        by_cases g1 : s[i].toNat < 33
        · have Hr := Lib.hid (Hno.out (nameC_no (.inl g1)))
          have f1 : decide ((s[i].toNat : Int) < 33) = true := decide_eq_true (by omega)
          clear g1 Hno Hyes
          go_wp2
          go_ret
          exact ⟨by rw [Hr.out]; rfl, rfl⟩
        · have f1 : decide ((s[i].toNat : Int) < 33) = false := decide_eq_false (by omega)
          by_cases g2 : 126 < s[i].toNat
          · have Hr := Lib.hid (Hno.out (nameC_no (.inr (.inl g2))))
            have f2 : decide ((126 : Int) < (s[i].toNat : Int)) = true := decide_eq_true (by omega)
            clear g1 g2 Hno Hyes
            go_wp2
            go_ret
            exact ⟨by rw [Hr.out]; rfl, rfl⟩
          · have f2 : decide ((126 : Int) < (s[i].toNat : Int)) = false := decide_eq_false (by omega)
            by_cases g3 : s[i].toNat = 58
            · have Hr := Lib.hid (Hno.out (nameC_no (.inr (.inr g3))))
              have f3 : ((s[i].toNat : Int) == 58) = true := by rw [beq_iff_eq]; omega
              clear g1 g2 g3 Hno Hyes
              go_wp2
              go_ret
              exact ⟨by rw [Hr.out]; rfl, rfl⟩
            · have Hr := Lib.hid (Hyes.out (nameC_yes (by omega) (by omega) g3))
              have f3 : ((s[i].toNat : Int) == 58) = false := by rw [beq_eq_false_iff_ne]; omega
              clear g1 g2 g3 Hno Hyes
              go_wp2
              go_round
              case rel => exact ⟨i + 1, by omega, by go_num, Hr⟩
              case measure => simp [intOf]; omega
      · have Hy := Lib.hid (HA.out fun j h1 => hj.out j h1 (by omega))
        clear hj
        go_wp2
        go_ret
        exact ⟨by rw [Hy.out]; rfl, rfl⟩
  · have Hr : Hid (nameB s.data.toList = false) := Lib.hid (by
      unfold nameB
      rw [bytes_len, decide_eq_false hsz]
      rfl)
    by_cases h0 : s.size < 1
    · clear hsz
      go_enter Tryd.func31, Tryd.ntmps31
      go_wp2
      go_ret
      exact ⟨by rw [Hr.out]; rfl, rfl⟩
    · have h1 : 64 < s.size := by omega
      clear hsz
      go_enter Tryd.func31, Tryd.ntmps31
      go_wp2
      go_ret
      exact ⟨by rw [Hr.out]; rfl, rfl⟩
end Go.Proofs.YtneihcdeflfahaaDoor
