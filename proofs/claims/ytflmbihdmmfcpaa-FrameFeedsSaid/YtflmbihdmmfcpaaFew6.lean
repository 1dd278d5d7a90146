/-
  few, of the sixth law file: are pieces few and short enough?
-/
import Derived.Test.YtflmbihdmmfcpaaStrL
import Derived.WalkKit
import Derived.LoopIn
import Derived.Deep.LoopGhost
namespace Go.Proofs.Ytflmbihdmmfcpaa
open Go.RowKit

def totF : List ByteArray → Nat
  | [] => 0
  | s :: ss => 1 + s.size + totF ss
theorem tot_append : ∀ a b : List ByteArray, totF (a ++ b) = totF a + totF b
  | [], b => by simp [totF]
  | s :: a, b => by rw [List.cons_append, totF, totF, tot_append a b]; omega
theorem tot_take (ss : List ByteArray) (i : Nat) (h : i < ss.length) : totF (ss.take (i + 1)) = totF (ss.take i) + (1 + (ss.getD i ByteArray.empty).size) := by
  rw [List.take_add_one, List.getElem?_eq_getElem h, tot_append]
  simp [totF, List.getD, h]
theorem tot_le (ss : List ByteArray) (i : Nat) : totF (ss.take i) ≤ totF ss := by
  conv => rhs; rw [← List.take_append_drop i ss, tot_append]
  omega
theorem tot_count : ∀ ss : List ByteArray, ss.length ≤ totF ss
  | [] => by simp [totF]
  | s :: ss => by
    have := tot_count ss
    rw [totF, List.length_cons]
    omega
/-- At most 100 pieces, and all in all at most 6000. -/
def fewB (ss : List ByteArray) : Bool := decide (ss.length ≤ 100 ∧ totF ss ≤ 6000)

set_option maxRecDepth 100000 in
set_option maxHeartbeats 2000000 in
theorem few6_any (B n c : Nat) (A : Option Addr) (ss : List ByteArray) (w : World) (h1 : Strs w B A n c ss) (hsz : ∀ s ∈ ss, s.size ≤ 140737488351232) :
    Calls Try.prog 10 #[.slice A n c] w fun e w' => e = .returned (.bool (fewB ss)) ∧ w' = w := by
  have hlen := h1.len
  obtain ⟨y, hy⟩ : ∃ y, fewB ss = y := ⟨_, rfl⟩
  rw [hy]
  have HY := Lib.hid hy
  clear hy
  go_enter Try.func10, Try.ntmps10
  go_wp2
  go_loop [3, 4] (fun kv iv => ∃ i : Nat, i ≤ n ∧ i ≤ 100 ∧ totF (ss.take i) ≤ 6000 ∧ kv = .int .i64 (totF (ss.take i) : Nat) ∧ iv = .int .i64 i) (fun _ iv => n - (intOf iv).toNat)
  case atStart => exact ⟨0, by omega, by omega, by simp [totF], rfl, rfl⟩
  case round =>
    obtain ⟨i, hi1, hi2, hi3, rfl, rfl⟩ := hrel
    by_cases hlt : i < n
    · have htk := tot_take ss i (by omega)
      have hle := tot_le ss (i + 1)
      obtain ⟨b, off, rfl, _, hc⟩ := h1.at_ hlt
      have hci := hc i hlt
      have hx8 : (ss.getD i ByteArray.empty).size ≤ 140737488351232 := by
        refine hsz _ ?_
        rw [List.getD, List.getElem?_eq_getElem (by omega)]
        exact List.getElem_mem _
      obtain ⟨x, hx⟩ : ∃ x, ss.getD i ByteArray.empty = x := ⟨_, rfl⟩
      rw [hx] at hci htk hx8
      obtain ⟨t, ht⟩ : ∃ t, totF (ss.take i) = t := ⟨_, rfl⟩
      rw [ht] at htk hi3 ⊢
      have Htk := Lib.hid htk
      have hno : (100 ≤ i ∨ 6000 < t + 1 + x.size) → fewB ss = false := fun h => decide_eq_false (by omega)
      have Hno := Lib.hid hno
      clear hc hx ht htk hle hno
      by_cases h100 : 100 ≤ i
      · have Hf := Lib.hid (Hno.out (.inl h100))
        go_wp2
        go_ret
        exact ⟨by rw [← HY.out, Hf.out]; rfl, rfl⟩
      · by_cases h6 : 6000 < t + 1 + x.size
        · have Hf := Lib.hid (Hno.out (.inr h6))
          go_wp2
          go_ret
          exact ⟨by rw [← HY.out, Hf.out]; rfl, rfl⟩
        · go_wp2
          refine ⟨⟨i + 1, by omega, by omega, by rw [Htk.out]; omega, ?_, by go_num⟩, by simp [intOf]; omega⟩
          rw [Htk.out]
          congr 1
          push_cast
          omega
    · obtain rfl : i = n := by omega
      rw [← hlen, List.take_length] at hi3
      have hf : fewB ss = true := decide_eq_true ⟨by omega, hi3⟩
      have Hf := Lib.hid hf
      clear hf
      go_wp2
      go_ret
      exact ⟨by rw [← HY.out, Hf.out]; rfl, rfl⟩
end Go.Proofs.Ytflmbihdmmfcpaa
