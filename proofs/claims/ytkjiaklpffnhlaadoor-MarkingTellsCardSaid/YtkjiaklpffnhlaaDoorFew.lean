/-
  Few, the law files' own test: it answers, for any lists of strings, and touches nothing.
-/
import Derived.Test.YtkjiaklpffnhlaaDoorStrs
namespace Go.Proofs.YtkjiaklpffnhlaaDoor
open Go.RowKit

/-- Some truth value is handed back. -/
def IsBool (e : Ending) : Prop := ∃ b, e = .returned (.bool b)

set_option maxRecDepth 100000 in
set_option maxHeartbeats 1600000 in
theorem few_any (B n c n' c' : Nat) (A A' : Option Addr) (ss ss' : List ByteArray) (w : World) (hB : B ≤ w.heap.size) (h1 : Strs w B A n c ss) (h2 : Strs w B A' n' c' ss') (hsz : ∀ s ∈ ss ++ ss', s.size ≤ maxLen) :
    Calls Tryd.prog 11 #[.agg #[.slice A n c, .slice A' n' c']] w fun e w' => IsBool e ∧ Below w.heap.size w w' := by
  have hbw : Below w.heap.size w (w.alloc (.cells #[.slice A n c, .slice A' n' c'] 24)) := (Below.refl _ _).alloc (Nat.le_refl _) _
  have hl1 := h1.len
  have hl2 := h2.len
  by_cases hn : n ≤ 40
  · by_cases hn' : n' ≤ 100
    · have q1 := h1.alloc hB (.cells #[.slice A n c, .slice A' n' c'] 24)
      have q2 := h2.alloc hB (.cells #[.slice A n c, .slice A' n' c'] 24)
      have d0 : (w.alloc (.cells #[.slice A n c, .slice A' n' c'] 24)).cell? ⟨w.heap.size, 0, none⟩ = some (.slice A n c) := by go_simp
      have d1 : (w.alloc (.cells #[.slice A n c, .slice A' n' c'] 24)).cell? ⟨w.heap.size, 1, none⟩ = some (.slice A' n' c') := by go_simp
      go_enter Tryd.func11, Tryd.ntmps11
      go_wp2
      go_loop [3, 4] (fun t i => ∃ (k : Nat) (N : Int), k ≤ n ∧ i = .int .i64 k ∧ t = .int .i64 N) (fun _ i => n - (intOf i).toNat)
      case atStart => exact ⟨0, _, Nat.zero_le _, rfl, rfl⟩
      case round =>
        obtain ⟨k, N, hk, rfl, rfl⟩ := hrel
        by_cases hlt : k < n
        · by_cases hN : N < 5000
          · obtain ⟨b, off, rfl, hb, hc⟩ := q1.at_ hlt
            have hcx := hc k hlt
            have hxs : (ss.getD k ByteArray.empty).size ≤ maxLen := by
              rw [List.getD, List.getElem?_eq_getElem (by omega)]
              exact hsz _ (List.mem_append_left _ (List.getElem_mem (by omega)))
            generalize ss.getD k ByteArray.empty = x at hcx hxs
            go_wp2
            go_round
            case rel => exact ⟨k + 1, _, by omega, by go_num, rfl⟩
            case measure => simp [intOf]; omega
          · go_wp2
            go_loop [3, 5] (fun t i => ∃ (k : Nat) (N : Int), k ≤ n' ∧ i = .int .i64 k ∧ t = .int .i64 N) (fun _ i => n' - (intOf i).toNat)
            case atStart => exact ⟨0, _, Nat.zero_le _, rfl, rfl⟩
            case round =>
              obtain ⟨k, N, hk, rfl, rfl⟩ := hrel
              by_cases hlt : k < n'
              · by_cases hN : N < 5000
                · obtain ⟨b, off, rfl, hb, hc⟩ := q2.at_ hlt
                  have hcx := hc k hlt
                  have hxs : (ss'.getD k ByteArray.empty).size ≤ maxLen := by
                    rw [List.getD, List.getElem?_eq_getElem (by omega)]
                    exact hsz _ (List.mem_append_right _ (List.getElem_mem (by omega)))
                  generalize ss'.getD k ByteArray.empty = x at hcx hxs
                  go_wp2
                  go_round
                  case rel => exact ⟨k + 1, _, by omega, by go_num, rfl⟩
                  case measure => simp [intOf]; omega
                · go_wp2
                  go_ret
                  exact ⟨⟨_, rfl⟩, hbw⟩
              · go_wp2
                go_ret
                exact ⟨⟨_, rfl⟩, hbw⟩
        · go_wp2
          go_loop [3, 5] (fun t i => ∃ (k : Nat) (N : Int), k ≤ n' ∧ i = .int .i64 k ∧ t = .int .i64 N) (fun _ i => n' - (intOf i).toNat)
          case atStart => exact ⟨0, _, Nat.zero_le _, rfl, rfl⟩
          case round =>
            obtain ⟨k, N, hk, rfl, rfl⟩ := hrel
            by_cases hlt : k < n'
            · by_cases hN : N < 5000
              · obtain ⟨b, off, rfl, hb, hc⟩ := q2.at_ hlt
                have hcx := hc k hlt
                have hxs : (ss'.getD k ByteArray.empty).size ≤ maxLen := by
                  rw [List.getD, List.getElem?_eq_getElem (by omega)]
                  exact hsz _ (List.mem_append_right _ (List.getElem_mem (by omega)))
                generalize ss'.getD k ByteArray.empty = x at hcx hxs
                go_wp2
                go_round
                case rel => exact ⟨k + 1, _, by omega, by go_num, rfl⟩
                case measure => simp [intOf]; omega
              · go_wp2
                go_ret
                exact ⟨⟨_, rfl⟩, hbw⟩
            · go_wp2
              go_ret
              exact ⟨⟨_, rfl⟩, hbw⟩
    · go_enter Tryd.func11, Tryd.ntmps11
      go_wp2
      go_ret
      exact ⟨⟨_, rfl⟩, hbw⟩
  · go_enter Tryd.func11, Tryd.ntmps11
    go_wp2
    go_ret
    exact ⟨⟨_, rfl⟩, hbw⟩
end Go.Proofs.YtkjiaklpffnhlaaDoor
