/-
  Few, of the seventh law file: are acts few and short enough?
-/
import Derived.Test.YtjmphdpeaahmfaaActs7
import Derived.LoopIn
import Derived.Deep.LoopGhost
namespace Go.Proofs.Ytjmphdpeaahmfaa
open Go.RowKit

/-- At most 200 acts, each with a text of at most 500 bytes. -/
def fewA (la : List ActS) : Bool := decide (la.length ≤ 200 ∧ ∀ a ∈ la, a.data.size ≤ 500)
theorem fewA_true {la : List ActS} (h : fewA la = true) : la.length ≤ 200 ∧ ∀ a ∈ la, a.data.size ≤ 500 := of_decide_eq_true h
theorem Acts.at_ {w : World} {A : Option Addr} {n : Nat} {la : List ActS} (h : Acts w A n la) {i : Nat} (hi : i < n) : ∃ (b off : Nat) (hl : i < la.length), A = some ⟨b, off, none⟩ ∧ b < w.heap.size ∧
    w.cell? ⟨b, off + i * 5, none⟩ = some (.int .i64 la[i].kind) ∧ w.cell? ⟨b, off + i * 5 + 1, none⟩ = some (.int .i64 la[i].pos) ∧ w.cell? ⟨b, off + i * 5 + 2, none⟩ = some (.string la[i].data) ∧
    w.cell? ⟨b, off + i * 5 + 3, none⟩ = some (.int .i64 la[i].ca) ∧ w.cell? ⟨b, off + i * 5 + 4, none⟩ = some (.int .i64 la[i].ct) := by
  obtain ⟨h1, _, h3⟩ := h
  rcases h3 with h3 | ⟨b, off, q1, q2, q3⟩
  · omega
  · exact ⟨b, off, by omega, q1, q2, q3 i (by omega)⟩
theorem Acts.nil_len {w : World} {A : Option Addr} {n : Nat} {la : List ActS} (h : Acts w A n la) : la.length = n := h.1

set_option maxRecDepth 100000 in
set_option maxHeartbeats 2000000 in
theorem few7_any (n c : Nat) (A : Option Addr) (la : List ActS) (w : World) (h1 : Acts w A n la) :
    Calls Try.prog 8 #[.slice A n c] w fun e w' => e = .returned (.bool (fewA la)) ∧ w' = w := by
  have hlen := h1.nil_len
  have hmx := h1.2.1
  obtain ⟨y, hy⟩ : ∃ y, fewA la = y := ⟨_, rfl⟩
  rw [hy]
  have HY := Lib.hid hy
  have Hmx := Lib.hid hmx
  clear hy hmx
  go_enter Try.func8, Try.ntmps8
  go_wp2
  go_loop [3] (fun iv => ∃ i : Nat, i ≤ n ∧ i ≤ 200 ∧ (∀ j (h : j < la.length), j < i → la[j].data.size ≤ 500) ∧ iv = .int .i64 i) (fun iv => n - (intOf iv).toNat)
  case atStart => exact ⟨0, by omega, by omega, fun j _ h => by omega, rfl⟩
  case round =>
    obtain ⟨i, hi1, hi2, hi3, rfl⟩ := hrel
    by_cases hlt : i < n
    · obtain ⟨b, off, hl, rfl, hb, _, _, c2, _, _⟩ := h1.at_ hlt
      have hx8 := Hmx.out _ (List.getElem_mem hl)
      have hno : (200 ≤ i ∨ 500 < la[i].data.size) → fewA la = false := fun h => decide_eq_false (fun h2 => by
        rcases h with h | h
        · omega
        · have := h2.2 _ (List.getElem_mem hl)
          omega)
      have hnext : la[i].data.size ≤ 500 → ∀ j (h : j < la.length), j < i + 1 → la[j].data.size ≤ 500 := fun h j hj hji => by
        rcases Nat.lt_or_ge j i with h1 | h1
        · exact hi3 j hj h1
        · obtain rfl : j = i := by omega
          exact h
      obtain ⟨x, hx⟩ : ∃ x, la[i].data = x := ⟨_, rfl⟩
      rw [hx] at c2 hx8 hno hnext
      have Hno := Lib.hid hno
      have Hnext := Lib.hid hnext
      unfold maxLen at hx8
      clear hno hnext hi3 hx h1
      by_cases h100 : 200 ≤ i
      · have Hf := Lib.hid (Hno.out (.inl h100))
        go_wp2
        go_ret
        exact ⟨by rw [← HY.out, Hf.out]; rfl, rfl⟩
      · by_cases h6 : 500 < x.size
        · have Hf := Lib.hid (Hno.out (.inr h6))
          go_wp2
          go_ret
          exact ⟨by rw [← HY.out, Hf.out]; rfl, rfl⟩
        · go_wp2
          exact ⟨⟨i + 1, by omega, by omega, Hnext.out (by omega), by go_num⟩, by simp [intOf]; omega⟩
    · obtain rfl : i = n := by omega
      have hf : fewA la = true := decide_eq_true ⟨by omega, fun a ha => by
        obtain ⟨j, hj, rfl⟩ := List.mem_iff_getElem.1 ha
        exact hi3 j hj (by omega)⟩
      have Hf := Lib.hid hf
      clear hf hi3
      go_wp2
      go_ret
      exact ⟨by rw [← HY.out, Hf.out]; rfl, rfl⟩
end Go.Proofs.Ytjmphdpeaahmfaa
