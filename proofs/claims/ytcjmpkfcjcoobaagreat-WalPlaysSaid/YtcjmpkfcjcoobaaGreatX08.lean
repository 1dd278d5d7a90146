/-
  Texts of this proof, put together: SecA.
-/
import Derived.Test.YtcjmpkfcjcoobaaGreatX07
import Derived.Test.YtcjmpkfcjcoobaaGreatX03
import Derived.Test.YtcjmpkfcjcoobaaGreatX01
import Derived.WalkKit
namespace Go.Proofs.YtcjmpkfcjcoobaaGreat
open Go.RowKit Go.Maps

/-- A disk in the block N, of the memory from B on; its bytes in the block g. -/
structure DiskAt (w : World) (B N g : Nat) (d : Dk) : Prop where
  bN : B ≤ N
  bg : B ≤ g
  ne : N ≠ g
  ok : d.ok
  few : d.ss.length ≤ 4096
  mem : ∃ cap rest, 64 * d.ss.length ≤ cap ∧ cap ≤ maxLen ∧ w.heap[N]? = some (.cells #[.slice (some ⟨g, 0, none⟩) (64 * d.ss.length) cap, .int .i64 d.ca, .int .i64 d.ct, .bool d.down, .int .i64 d.wr, .int .i64 d.ah] 84 (0, 0)) ∧
    w.heap[g]? = some (.cells (Lib.byteCells d.ss.flatten ++ rest).toArray 5 (0, 0))
/-- What a disk's calls may turn. -/
def mineD (N g : Nat) (b : Nat) : Prop := b = N ∨ b = g

section
variable {w w' : World} {B N g N' g' : Nat} {d : Dk}
theorem DiskAt.ltN (h : DiskAt w B N g d) : N < w.heap.size := by
  obtain ⟨cap, rest, _, _, h1, h2⟩ := h.mem
  exact (Array.getElem?_eq_some_iff.1 h1).1
theorem DiskAt.ltg (h : DiskAt w B N g d) : g < w.heap.size := by
  obtain ⟨cap, rest, _, _, h1, h2⟩ := h.mem
  exact (Array.getElem?_eq_some_iff.1 h2).1
theorem DiskAt.blocks (h : DiskAt w B N g d) : ∀ b, mineD N g b → B ≤ b ∧ b < w.heap.size := by
  rintro b (rfl | rfl)
  · exact ⟨h.bN, h.ltN⟩
  · exact ⟨h.bg, h.ltg⟩
theorem DiskAt.keep {S : Nat → Prop} (h : DiskAt w B N g d) (t : Turned S w w') (hs : ∀ b, mineD N g b → ¬ S b) : DiskAt w' B N g d := by
  obtain ⟨cap, rest, h1, h2, h3, h4⟩ := h.mem
  exact ⟨h.bN, h.bg, h.ne, h.ok, h.few, cap, rest, h1, h2, t.heap h3 (hs N (.inl rfl)), t.heap h4 (hs g (.inr rfl))⟩
theorem DiskAt.below (h : DiskAt w B N g d) (hb : Below w.heap.size w w') : DiskAt w' B N g d := h.keep (S := fun _ => False) (Turned.of_below hb (Nat.le_refl _)) (fun _ _ h => h)
theorem DiskAt.alloc (h : DiskAt w B N g d) (o : Obj) : DiskAt (w.alloc o) B N g d := h.below ((Below.refl _ w).alloc (Nat.le_refl _) o)
theorem DiskAt.drew (h : DiskAt w B N g d) : DiskAt w.drew B N g d := h.keep (S := fun _ => False) Turned.drew (fun _ _ h => h)
/-- Its cells. -/
theorem DiskAt.cells (h : DiskAt w B N g d) : ∃ cap, 64 * d.ss.length ≤ cap ∧ cap ≤ maxLen ∧ w.cell? ⟨N, 0, none⟩ = some (.slice (some ⟨g, 0, none⟩) (64 * d.ss.length) cap) ∧ w.cell? ⟨N, 1, none⟩ = some (.int .i64 d.ca) ∧ w.cell? ⟨N, 2, none⟩ = some (.int .i64 d.ct) ∧
    w.cell? ⟨N, 3, none⟩ = some (.bool d.down) ∧ w.cell? ⟨N, 4, none⟩ = some (.int .i64 d.wr) ∧ w.cell? ⟨N, 5, none⟩ = some (.int .i64 d.ah) ∧ ∀ j, w.frozen? ⟨N, j, none⟩ = false := by
  obtain ⟨cap, rest, h1, h2, h3, _⟩ := h.mem
  refine ⟨cap, h1, h2, ?_, ?_, ?_, ?_, ?_, ?_, fun j => Lib.frozen_of_heap h3 j⟩ <;> rw [Lib.cell_of_heap h3] <;> rfl
end

theorem quo_64 (n : Nat) : ((64 * n : Nat) : Int).tdiv 64 = (n : Int) := by
  rw [Int.tdiv_eq_ediv_of_nonneg (by omega)]
  omega

set_option maxRecDepth 100000 in
set_option maxHeartbeats 1000000 in
theorem size_any (B N g : Nat) (d : Dk) (w : World) (h : DiskAt w B N g d) :
    Calls Tryz.prog 53 #[.pointer (some ⟨N, 0, none⟩)] w fun e w' => e = .returned (.int .i64 (d.ss.length : Int)) ∧ w' = w := by
  obtain ⟨cap, h1, h2, c0, _⟩ := h.cells
  have hf := h.few
  obtain ⟨n, hn⟩ : ∃ n, d.ss.length = n := ⟨_, rfl⟩
  rw [hn] at c0 h1 hf ⊢
  have hq := quo_64 n
  obtain ⟨L, hL⟩ : ∃ L, 64 * n = L := ⟨_, rfl⟩
  rw [hL] at hq c0 h1
  clear h hn
  go_enter Tryz.func53, Tryz.ntmps53
  go_wp2
  go_ret
  exact ⟨rfl, rfl⟩

set_option maxRecDepth 100000 in
set_option maxHeartbeats 1000000 in
theorem check_any (B N g : Nat) (d : Dk) (w : World) (h : DiskAt w B N g d) (p : Int) :
    Calls Tryz.prog 46 #[.pointer (some ⟨N, 0, none⟩), .int .i64 p] w fun e w' => e = .returned (.int .i64 (checkD d p)) ∧ w' = w := by
  obtain ⟨cap, h1, h2, _, _, _, c3, _⟩ := h.cells
  have hs := size_any B N g d w h
  unfold checkD
  obtain ⟨n, hn⟩ : ∃ n, d.ss.length = n := ⟨_, rfl⟩
  rw [hn] at hs ⊢
  obtain ⟨x, hx⟩ : ∃ x, d.down = x := ⟨_, rfl⟩
  rw [hx] at c3 ⊢
  clear h hn hx h1
  cases x with
  | true =>
    go_enter Tryz.func46, Tryz.ntmps46
    go_wp2
    go_ret
    exact ⟨rfl, rfl⟩
  | false =>
    by_cases hp : p < 0
    · rw [if_pos (Or.inl hp)]
      go_enter Tryz.func46, Tryz.ntmps46
      go_wp2
      go_ret
      exact ⟨rfl, rfl⟩
    · by_cases hq : (n : Int) ≤ p
      · rw [if_pos (Or.inr hq)]
        go_enter Tryz.func46, Tryz.ntmps46
        go_wp2_with (go_at_call 53; refine hs.mono ?_; rintro e w' ⟨rfl, rfl⟩)
        go_ret
        exact ⟨rfl, rfl⟩
      · rw [if_neg (show ¬ (false = true) by simp), if_neg (show ¬ (p < 0 ∨ (n : Int) ≤ p) by omega)]
        go_enter Tryz.func46, Tryz.ntmps46
        go_wp2_with (go_at_call 53; refine hs.mono ?_; rintro e w' ⟨rfl, rfl⟩)
        go_ret
        exact ⟨rfl, rfl⟩

set_option maxRecDepth 100000 in
set_option maxHeartbeats 1000000 in
theorem cut_out_any (B N g : Nat) (d : Dk) (w : World) (h : DiskAt w B N g d) (i : Nat) (hi : i < d.ss.length) :
    Calls Tryz.prog 48 #[.pointer (some ⟨N, 0, none⟩), .int .i64 (i : Int)] w fun e w' => e = .returned (.slice (some ⟨g, 64 * i, none⟩) 64 64) ∧ w' = w := by
  obtain ⟨cap, h1, h2, c0, _⟩ := h.cells
  have hf := h.few
  obtain ⟨n, hn⟩ : ∃ n, d.ss.length = n := ⟨_, rfl⟩
  rw [hn] at c0 h1 hf hi
  have k1 : (i : Int) * 64 + 64 ≤ ((64 * n : Nat) : Int) := by omega
  obtain ⟨L, hL⟩ : ∃ L, 64 * n = L := ⟨_, rfl⟩
  rw [hL] at k1 c0 h1
  unfold maxLen at h2
  clear h hn
  go_enter Tryz.func48, Tryz.ntmps48
  go_wp2
  go_ret
  refine ⟨?_, rfl⟩
  rw [show i * 64 + 64 - i * 64 = 64 by omega, show i * 64 = 64 * i by omega]
  rfl
end Go.Proofs.YtcjmpkfcjcoobaaGreat
