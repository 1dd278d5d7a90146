/-
  Texts of this proof, put together: SecC.
-/
import Derived.Test.YtcjmpkfcjcoobaaGreatX09
import Derived.OwnWalk
import Derived.Laws.OwnMore
import Derived.Lib.SliceRun
import Derived.Deep.RegionHeld3
import Derived.StillTailTactics
namespace Go.Proofs.YtcjmpkfcjcoobaaGreat
open Go.RowKit Go.Maps

/-- A row of bytes that was made, or cloned: its block holds the bytes first. -/
theorem row_bytes {w : World} {B g n cap : Nat} {l : List UInt8} (h : w.ownsRow B 5 1 (.slice (some ⟨g, 0, none⟩) n cap) n (Lib.byteCells l)) :
    B ≤ g ∧ n ≤ cap ∧ cap ≤ maxLen ∧ l.length = n ∧ ∃ rest, w.heap[g]? = some (.cells (Lib.byteCells l ++ rest).toArray 5 (0, 0)) := by
  have hl : l.length = n := by
    have := h.1
    rw [Lib.byteCells_length] at this
    omega
  rcases h.2 with ⟨e, _⟩ | ⟨g', cap', cur, e, hb, hg, hnc, hcm, hcs, ht⟩
  · cases e
  · simp only [Value.slice.injEq, Option.some.injEq, Addr.mk.injEq, true_and, and_true] at e
    obtain ⟨rfl, rfl⟩ := e
    refine ⟨hb, hnc, hcm, hl, cur.toList.drop (n * 1), ?_⟩
    rw [← ht, List.take_append_drop, Array.toArray_toList]
    exact hg
theorem zero_cells (n : Nat) : (madeCells (Value.int .u8 0).cells (n * 1)).toList = Lib.byteCells (List.replicate n 0) := by
  rw [show (Value.int .u8 0).cells = #[.int .u8 0] from rfl, toList_madeCells_one, Nat.mul_one, Lib.byteCells, List.map_replicate]
  rfl
theorem flat_zero : ∀ n : Nat, (List.replicate n (List.replicate 64 (0 : UInt8))).flatten = List.replicate (64 * n) 0
  | 0 => rfl
  | n + 1 => by
    rw [List.replicate_succ, List.flatten_cons, flat_zero n, List.replicate_append_replicate]
    congr 1
    omega

set_option maxRecDepth 100000 in
set_option maxHeartbeats 2000000 in
theorem snew_any (B : Nat) (w : World) (hB : B ≤ w.heap.size) (n : Nat) (h1 : 1 ≤ n) (h2 : n ≤ 4096) :
    Calls Tryz.prog 14 #[.int .i64 (n : Int)] w fun e w' => ∃ N g, e = .returned (.tuple #[.pointer (some ⟨N, 0, none⟩), .int .i64 0]) ∧ DiskAt w' B N g (newD n) ∧ Below w.heap.size w w' ∧ ∀ b, mineD N g b → w.heap.size ≤ b := by
  obtain ⟨i0, hi, hz0, hz1, hz2⟩ := info_parts infoB4
  have hzero := zero_cells (64 * n)
  rw [← flat_zero n] at hzero
  have Hz := Lib.hid hzero
  clear hzero
  go_enter Tryz.func14, Tryz.ntmps14
  go_wp2_with (at_make; refine wpList_make_full _ rfl _ _ 72 rfl w.heap.size 5 i0 (.int .u8 0) 1 Tryz.underlying72 hi hz0 hz1 .i64 .i64 _ _ (64 * n) rfl rfl (by omega) (by omega) (by rw [hz2]; omega) (by unfold maxLen; omega) (Nat.le_refl _) ?_; intro w1 hown hgrow)
  rw [Hz.out] at hown
  obtain ⟨_, hcap, hmax, hlen, rest, hg⟩ := row_bytes hown
  have hsz : w.heap.size < w1.heap.size := (Array.getElem?_eq_some_iff.1 hg).1
  have hb1 : Below w.heap.size w w1 := ⟨hgrow.os, hgrow.tape, hgrow.output, hgrow.size, fun k hk => hgrow.block k hk (by simp)⟩
  have hfin : DiskAt (w1.alloc (.cells #[.slice (some ⟨w.heap.size, 0, none⟩) (64 * n) (64 * n), .int .i64 0, .int .i64 0, .bool false, .int .i64 0, .int .i64 0] 84)) B w1.heap.size w.heap.size (newD n) := by
    refine ⟨by omega, hB, by omega, new_ok n, by show (List.replicate n _).length ≤ _; rw [List.length_replicate]; exact h2, 64 * n, rest, ?_, hmax, ?_, ?_⟩
    · show 64 * (List.replicate n _).length ≤ _
      rw [List.length_replicate]
      exact Nat.le_refl _
    · rw [heap_alloc_new]
      show _ = some (Obj.cells #[.slice _ (64 * (List.replicate n _).length) _, _, _, _, _, _] _ _)
      rw [List.length_replicate]
      rfl
    · rw [heap_alloc_old w1 _ hsz]
      exact hg
  have H := Lib.hid (And.intro hfin (hb1.alloc (Nat.le_of_lt hsz) (.cells #[.slice (some ⟨w.heap.size, 0, none⟩) (64 * n) (64 * n), .int .i64 0, .int .i64 0, .bool false, .int .i64 0, .int .i64 0] 84)))
  clear hfin hb1 hg hown hgrow
  go_wp2
  go_ret2
  refine ⟨w1.heap.size, w.heap.size, rfl, H.out.1, H.out.2, ?_⟩
  rintro b (rfl | rfl) <;> omega

theorem snew_bad (w : World) (n : Int) (h : n < 1 ∨ 4096 < n) :
    Calls Tryz.prog 14 #[.int .i64 n] w fun e w' => e = .returned (.tuple #[.pointer none, .int .i64 1]) ∧ w' = w := by
  by_cases h1 : n < 1
  · clear h
    go_enter Tryz.func14, Tryz.ntmps14
    go_wp2
    go_ret2
    exact ⟨rfl, rfl⟩
  · have h2 : 4096 < n := by omega
    clear h
    go_enter Tryz.func14, Tryz.ntmps14
    go_wp2
    go_ret2
    exact ⟨rfl, rfl⟩

end Go.Proofs.YtcjmpkfcjcoobaaGreat
