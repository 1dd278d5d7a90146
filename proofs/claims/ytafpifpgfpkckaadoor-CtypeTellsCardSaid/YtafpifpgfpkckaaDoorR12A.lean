/-
  The document's answer of layer 12: a letter, a token, Right.
-/
import Derived.Test.YtafpifpgfpkckaaDoorCtE
import Derived.LoopIn
import Derived.Deep.LoopGhost
namespace Go.Proofs.YtafpifpgfpkckaaDoor
open Go.RowKit

theorem all_bytesC {p : UInt8 → Bool} (s : ByteArray) (h : ∀ i (hi : i < s.size), p s[i] = true) : s.data.toList.all p = true := by
  rw [List.all_eq_true]
  intro c hc
  obtain ⟨i, hi, rfl⟩ := List.mem_iff_getElem.1 hc
  exact h i (by simpa using hi)
theorem not_bytesC {p : UInt8 → Bool} (s : ByteArray) (i : Nat) (hi : i < s.size) (h : p s[i] = false) : s.data.toList.all p = false := by
  rw [List.all_eq_false]
  exact ⟨s[i], by
    have : s[i] = s.data.toList[i]'(by simpa using hi) := rfl
    rw [this]
    exact List.getElem_mem _, by rw [h]; simp⟩
theorem cons_atC (s : ByteArray) (i : Nat) (hi : i < s.size) : s.data.toList.drop i = s[i] :: s.data.toList.drop (i + 1) := List.drop_eq_getElem_cons (by show i < s.size; exact hi)
def marksB : ByteArray := ⟨#[33, 35, 36, 38, 45, 94, 95, 46, 43]⟩

set_option maxRecDepth 100000 in
set_option maxHeartbeats 2000000 in
theorem r12letter_any (c : UInt8) (w : World) : Calls Tryd.prog 30 #[.int .u8 (c.toNat : Int)] w fun e w' => e = .returned (.bool (tokC c)) ∧ w' = w := by
  unfold tokC
  rcases low_casesC c with ⟨h1, e⟩ | ⟨h1, h2, e⟩ | ⟨h1, h2, h3, e⟩ | ⟨h1, h2, e⟩ | ⟨h1, h2, h3, h4, e⟩
  rotate_left 1
  · rw [e, Bool.true_or]
    clear e
    go_enter Tryd.func30, Tryd.ntmps30
    go_wp2
    go_ret
    exact ⟨rfl, rfl⟩
  rotate_left 1
  · rw [e, Bool.true_or]
    clear e
    go_enter Tryd.func30, Tryd.ntmps30
    go_wp2
    go_ret
    exact ⟨rfl, rfl⟩
  all_goals
    rw [e, Bool.false_or]
    clear e
    obtain ⟨R, hR⟩ : ∃ R, marksC.contains c = R := ⟨_, rfl⟩
    rw [hR]
    have HR : Hid ((marksC.drop 0).contains c = R) := Lib.hid hR
    clear hR
    go_enter Tryd.func30, Tryd.ntmps30
    go_wp2
    go_loop [3] (fun iv => ∃ i : Nat, i ≤ 9 ∧ iv = .int .i64 i ∧ Hid ((marksC.drop i).contains c = R)) (fun iv => 9 - (intOf iv).toNat)
    case atStart => exact ⟨0, by omega, rfl, HR⟩
    case round =>
      obtain ⟨i, hi, rfl, hc⟩ := hrel
      clear HR
      by_cases hlt : i < 9
      · have hsz : i < marksC.length := hlt
        have hc2 := hc.out
        rw [List.drop_eq_getElem_cons hsz, List.contains_cons] at hc2
        have hix : ((⟨#[33, 35, 36, 38, 45, 94, 95, 46, 43]⟩ : ByteArray)[i]'(by show i < 9; exact hlt)) = marksC[i] := rfl
        obtain ⟨d, hd⟩ : ∃ d, marksC[i] = d := ⟨_, rfl⟩
        rw [hd] at hc2 hix
        by_cases hq : c = d
        · have hn : ((((⟨#[33, 35, 36, 38, 45, 94, 95, 46, 43]⟩ : ByteArray)[i]'(by show i < 9; exact hlt)).toNat : Int) == (c.toNat : Int)) = true := by rw [hix, hq, beq_iff_eq]
          have hRt : true = R := by rw [← hc2, hq]; simp
          have HRt := Lib.hid hRt
          clear hc2 hd hq hRt hc hix
          go_wp2
          go_ret
          exact ⟨by rw [← HRt.out]; rfl, rfl⟩
        · have hn : ((((⟨#[33, 35, 36, 38, 45, 94, 95, 46, 43]⟩ : ByteArray)[i]'(by show i < 9; exact hlt)).toNat : Int) == (c.toNat : Int)) = false := by
            rw [hix, beq_eq_false_iff_ne]
            exact fun e => hq (UInt8.toNat_inj.1 (by omega))
          have Hn : Hid ((marksC.drop (i + 1)).contains c = R) := Lib.hid (by
            rw [← hc2, beq_eq_false_iff_ne.2 hq, Bool.false_or])
          clear hc2 hd hq hc hix
          go_wp2
          go_round
          case rel => exact ⟨i + 1, by omega, by go_num, Hn⟩
          case measure => simp [intOf]; omega
      · have hc2 := hc.out
        rw [List.drop_of_length_le (by show 9 ≤ i; omega)] at hc2
        have HRt : Hid (false = R) := Lib.hid hc2
        clear hc2 hc
        go_wp2
        go_ret
        exact ⟨by rw [← HRt.out]; rfl, rfl⟩

set_option maxRecDepth 100000 in
set_option maxHeartbeats 2000000 in
theorem r12token_any (s : ByteArray) (w : World) (hs : s.size ≤ 1000000000) : Calls Tryd.prog 25 #[.string s] w fun e w' => e = .returned (.bool (tokT s.data.toList)) ∧ w' = w := by
  have hyes : (∀ i (hi : i < s.size), tokC s[i] = true) → tokT s.data.toList = (decide (1 ≤ s.size) && decide (s.size ≤ 64)) := fun h => by
    unfold tokT
    rw [all_bytesC s h, Bool.and_true]
    rfl
  have hno : ∀ i (hi : i < s.size), tokC s[i] = false → tokT s.data.toList = false := fun i hi h => by
    unfold tokT
    rw [not_bytesC s i hi h, Bool.and_false, Bool.and_false]
  have HY := Lib.hid hyes
  have HN := Lib.hid hno
  clear hyes hno
  go_enter Tryd.func25, Tryd.ntmps25
  go_wp2
  go_loop [3] (fun iv => ∃ i : Nat, i ≤ s.size ∧ iv = .int .i64 i ∧ Hid (∀ j (ha : j < s.size), j < i → tokC s[j] = true)) (fun iv => s.size - (intOf iv).toNat)
  case atStart => exact ⟨0, by omega, rfl, Lib.hid (fun j _ h => by omega)⟩
  case round =>
    obtain ⟨i, hi, rfl, hj⟩ := hrel
    by_cases hlt : i < s.size
    · have Hno := Lib.hid (HN.out i hlt)
      have Hyes : Hid (tokC s[i] = true → ∀ j (ha : j < s.size), j < i + 1 → tokC s[j] = true) := Lib.hid fun h j h1 h3 => by
        rcases Nat.lt_or_ge j i with h4 | h4
        · exact hj.out j h1 h4
        · obtain rfl : j = i := by omega
          exact h
      have hq := fun W => r12letter_any s[i] W
      obtain ⟨b, hb⟩ : ∃ b, tokC s[i] = b := ⟨_, rfl⟩
      rw [hb] at Hno Hyes
      simp only [hb] at hq
      clear hb hj HY HN
      cases b with
      | true =>
        have Hy := Lib.hid (Hyes.out rfl)
        clear Hno Hyes
        go_wp2_with (go_at_call 30; refine (hq _).mono ?_; rintro e w1 ⟨rfl, h9⟩; obtain rfl := h9.symm)
        go_round
        case rel => exact ⟨i + 1, by omega, by go_num, Hy⟩
        case measure => simp [intOf]; omega
      | false =>
        have Hn := Lib.hid (Hno.out rfl)
        clear Hno Hyes
        go_wp2_with (go_at_call 30; refine (hq _).mono ?_; rintro e w1 ⟨rfl, h9⟩; obtain rfl := h9.symm)
        go_ret
        exact ⟨by rw [Hn.out]; rfl, rfl⟩
    · obtain rfl : i = s.size := by omega
      have Hy := Lib.hid (HY.out (fun j hj2 => hj.out j hj2 hj2))
      clear hj HY HN
      by_cases h1 : 1 ≤ s.size
      · have Hy2 : Hid (tokT s.data.toList = decide ((s.size : Int) ≤ 64)) := Lib.hid (by
          rw [Hy.out, decide_eq_true h1, Bool.true_and]
          exact decide_eq_decide.2 (by omega))
        clear Hy
        go_wp2
        go_ret
        exact ⟨by rw [Hy2.out]; rfl, rfl⟩
      · have Hy2 : Hid (tokT s.data.toList = false) := Lib.hid (by rw [Hy.out, decide_eq_false h1, Bool.false_and])
        clear Hy
        go_wp2
        go_ret
        exact ⟨by rw [Hy2.out]; rfl, rfl⟩
end Go.Proofs.YtafpifpgfpkckaaDoor
