/-
  Texts of this proof, put together: Build, Build1, E64P, E64.
-/
import Derived.Test.YtjikghndoklajaaGreatDoorRows
import Derived.WalkKit
import Derived.WalkSpells
import Derived.WalkLawsBesides
import Derived.Lib.Builder
import Derived.Lib.AppendStr
import Derived.Laws.Externs
import Derived.Laws.AppendOwn
import Derived.Test.YtjikghndoklajaaGreatDoorZ02
import Derived.Test.YtjikghndoklajaaGreatDoorZ01
import Derived.Deep.QuietTactic
import Derived.Laws.BitsLemmas
namespace Go.Proofs.YtjikghndoklajaaGreatDoor
open Go.RowKit

theorem sizeBuilder : (Tryz.prog.info? 113).map (·.size) = some 2 := by kernel_rfl
theorem liesBuilder : liesAt Tryz.prog Tryz.prog.depth 113 (2 / Tryz.prog.cellsOf 113) 0 113 1 = true := by kernel_rfl
theorem infoByte : (Tryz.prog.info? 5).map (fun i => (i.zero, i.size, i.bytes)) = some (some (.int .u8 0), 1, 1) := by kernel_rfl

set_option maxHeartbeats 1000000 in
set_option maxRecDepth 100000 in
theorem bcheck_used (b : Nat) (w : World) (h0 : w.cell? ⟨b, 0, none⟩ = some (.pointer (some ⟨b, 0, none⟩))) :
    Calls Tryz.prog 109 #[.pointer (some ⟨b, 0, none⟩)] w fun e w' => e = .returned (.tuple #[]) ∧ w' = w := by
  obtain ⟨j, hj, _⟩ := Option.map_eq_some_iff.1 sizeBuilder
  go_enter Tryz.func109, Tryz.ntmps109
  go_wp2
  rw [Lib.run_neq_ptr_same w _ Tryz.underlying111 hj]
  go_wp2
  go_end0
  exact ⟨rfl, rfl⟩

set_option maxHeartbeats 1000000 in
set_option maxRecDepth 100000 in
theorem bcheck_fresh (b : Nat) (w : World) (h0 : w.cell? ⟨b, 0, none⟩ = some (.pointer none)) (hsh : w.shape? b = some (113, 2)) (hfz : w.frozen? ⟨b, 0, none⟩ = false) :
    Calls Tryz.prog 109 #[.pointer (some ⟨b, 0, none⟩)] w fun e w' => e = .returned (.tuple #[]) ∧ w' = w.setCell ⟨b, 0, none⟩ (.pointer (some ⟨b, 0, none⟩)) := by
  obtain ⟨j, hj, hjs⟩ := Option.map_eq_some_iff.1 sizeBuilder
  go_enter Tryz.func109, Tryz.ntmps109
  go_wp2
  rw [Lib.run_to_unsafe w ⟨b, 0, none⟩ Tryz.underlying111 Tryz.underlying163 hj (by rw [hjs]; decide) hsh (Nat.zero_lt_succ 1)]
  simp only [Result.andThen]
  rw [Oper.upon_value]
  go_wp2
  rw [run_callFunc_extern Tryz.func146 (by kernel_rfl) (by kernel_rfl) (by kernel_rfl) (e := Extern.AbiNoEscape.same) (by kernel_rfl)]
  rw [Lib.run_noEscape]
  simp only [Result.andThen]
  rw [Oper.upon_value]
  go_wp2
  rw [Lib.run_from_unsafe w ⟨b, 0, none⟩ Tryz.underlying163 Tryz.underlying111 hj hsh liesBuilder]
  simp only [Result.andThen]
  rw [Oper.upon_value]
  go_wp2
  go_end0
  exact ⟨rfl, rfl⟩

theorem bcheck_any (B b : Nat) (bs : List Value) (w : World) (h : Lib.IsBuilder 113 5 B b bs w) :
    Calls Tryz.prog 109 #[.pointer (some ⟨b, 0, none⟩)] w fun e w' => e = .returned (.tuple #[]) ∧ (Lib.BuilderAt 113 5 B b (.pointer (some ⟨b, 0, none⟩)) bs w' ∧ Below B w w') := by
  rcases h with h | h
  · refine (bcheck_fresh b w h.cell0 h.shape h.frozen0).mono ?_
    rintro e w' ⟨rfl, rfl⟩
    exact ⟨rfl, h.used _, (Below.refl B w).setCell (p := ⟨b, 0, none⟩) h.1 _⟩
  · refine (bcheck_used b w h.cell0).mono ?_
    rintro e w' ⟨rfl, rfl⟩
    exact ⟨rfl, h, Below.refl B _⟩

set_option maxHeartbeats 2000000 in
set_option maxRecDepth 100000 in
theorem bwrite_any (B b : Nat) (bs : List Value) (s : ByteArray) (w : World) (h : Lib.IsBuilder 113 5 B b bs w) (hlen : bs.length + s.size ≤ 140737488355328) (hBw : B ≤ w.heap.size) :
    Calls Tryz.prog 74 #[.pointer (some ⟨b, 0, none⟩), .string s] w fun e w' => e = .returned (.tuple #[.int .i64 s.size, .nilIface]) ∧ (Lib.BuilderAt 113 5 B b (.pointer (some ⟨b, 0, none⟩)) (bs ++ Lib.strCells s) w' ∧ Below B w w') := by
  obtain ⟨i0, hi, hz0, hz1, hz2⟩ := info_parts infoByte
  go_enter Tryz.func74, Tryz.ntmps74
  go_wp2_with (go_at_call 109; refine (bcheck_any B b bs _ h).mono ?_)
  rintro e w1 ⟨rfl, h1, hb1⟩
  obtain ⟨hB, v, hbk, hown, hne⟩ := h1
  have c0 : w1.cell? ⟨b, 0, none⟩ = some (.pointer (some ⟨b, 0, none⟩)) := by rw [Lib.cell_of_heap hbk]; rfl
  have c1 : w1.cell? ⟨b, 1, none⟩ = some v := by rw [Lib.cell_of_heap hbk]; rfl
  go_wp2_with (at_builtin; refine Lib.wpList_append_own_string _ rfl _ _ 96 9 rfl B 5 i0 Tryz.underlying96 Tryz.underlying9 hi hz0 hz1 hz2 _ _ _ rfl hown s rfl ?c3 ?c4 ?c5 ?_)
  case c3 => unfold maxLen; omega
  case c4 => omega
  case c5 => have := hb1.size; omega
  intro v' w2 hown' hgrow _
  have hlt : b < w1.heap.size := by
    rcases Nat.lt_or_ge b w1.heap.size with h' | h'
    · exact h'
    · simp [Array.getElem?_eq_none h'] at hbk
  have hb2 : w2.heap[b]? = some (.cells #[.pointer (some ⟨b, 0, none⟩), v] 113 (0, 0)) := by
    rw [hgrow.block b hlt (fun e => hne e.symm)]
    exact hbk
  have d0 : w2.cell? ⟨b, 0, none⟩ = some (.pointer (some ⟨b, 0, none⟩)) := by rw [Lib.cell_of_heap hb2]; rfl
  have d1 : w2.cell? ⟨b, 1, none⟩ = some v := by rw [Lib.cell_of_heap hb2]; rfl
  have f1 : w2.frozen? ⟨b, 1, none⟩ = false := Lib.frozen_of_heap hb2 1
  obtain ⟨ao, n', cap, rfl⟩ : ∃ ao n' cap, v' = .slice ao n' cap := by
    rcases hown'.2 with ⟨hv, _⟩ | ⟨g, cap, cur, hv, _⟩
    · exact ⟨_, _, _, hv⟩
    · exact ⟨_, _, _, hv⟩
  go_wp2
  go_ret2
  refine ⟨rfl, ?_, ?_⟩
  · exact Lib.BuilderAt.put (T := 113) (e := 5) hB hb2 (bs' := bs ++ Lib.strCells s) (by simpa [Lib.strCells_length] using hown') (by decide)
  · exact (hb1.grown hgrow (by have := hb1.size; omega) (fun k hk => (hown.lt k hk).1)).setCell (p := ⟨b, 1, none⟩) hB _
end Go.Proofs.YtjikghndoklajaaGreatDoor
namespace Go.Proofs.YtjikghndoklajaaGreatDoor
open Go.RowKit

set_option maxHeartbeats 2000000 in
set_option maxRecDepth 100000 in
theorem wbyte_any (B b : Nat) (l : List UInt8) (c : UInt8) (w : World) (h : Lib.IsBuilder 113 5 B b (Lib.byteCells l) w) (hlen : l.length + 1 ≤ 140737488355328) (hBw : B ≤ w.heap.size) :
    Calls Tryz.prog 123 #[.pointer (some ⟨b, 0, none⟩), .int .u8 (c.toNat : Int)] w fun e w' => e = .returned .nilIface ∧ (Lib.BuilderAt 113 5 B b (.pointer (some ⟨b, 0, none⟩)) (Lib.byteCells (l ++ [c])) w' ∧ Below B w w') := by
  obtain ⟨i0, hi, hz0, hz1, hz2⟩ := info_parts infoByte
  go_enter Tryz.func123, Tryz.ntmps123
  go_wp2_with (go_at_call 109; refine (bcheck_any B b (Lib.byteCells l) _ h).mono ?_)
  rintro e w1 ⟨rfl, h1, hb1⟩
  obtain ⟨hB, v, hbk, hown, hne⟩ := h1
  rw [Lib.byteCells_length] at hown
  have c0 : w1.cell? ⟨b, 0, none⟩ = some (.pointer (some ⟨b, 0, none⟩)) := by rw [Lib.cell_of_heap hbk]; rfl
  have c1 : w1.cell? ⟨b, 1, none⟩ = some v := by rw [Lib.cell_of_heap hbk]; rfl
  have hown2 := hown.alloc (.cells #[.int .u8 (c.toNat : Int)] 5)
  have hbz := hb1.size
  go_wp2_with (at_builtin; refine wpList_append_own _ rfl _ _ 96 rfl B 5 i0 (.int .u8 0) 1 1 Tryz.underlying96 hi hz0 hz1 hz2 rfl (by decide) _ l.length _ rfl hown2 ⟨w1.heap.size, 0, none⟩ 1 1 [.int .u8 (c.toNat : Int)] rfl rfl ?n1 ?n2 ?n3 ?n4 ?n5 ?_)
  case n1 =>
    intro j u hj
    rw [Addr.add_lit]
    have hj0 : j = 0 := by
      rcases Nat.eq_zero_or_pos j with h | h
      · exact h
      · rw [List.getElem?_eq_none (by simp; omega)] at hj
        cases hj
    subst hj0
    simp at hj
    subst hj
    go_simp
  case n2 =>
    intro u hu
    simp at hu
    subst hu
    rfl
  case n3 => unfold maxLen; omega
  case n4 => omega
  case n5 => simp; omega
  intro v' w2 hown' hgrow _
  have hlt : b < w1.heap.size := by
    rcases Nat.lt_or_ge b w1.heap.size with h' | h'
    · exact h'
    · simp [Array.getElem?_eq_none h'] at hbk
  have hb2 : w2.heap[b]? = some (.cells #[.pointer (some ⟨b, 0, none⟩), v] 113 (0, 0)) := by
    rw [hgrow.block b (by simp; omega) (fun e => hne e.symm), Lib.alloc_old _ _ _ hlt]
    exact hbk
  have d0 : w2.cell? ⟨b, 0, none⟩ = some (.pointer (some ⟨b, 0, none⟩)) := by rw [Lib.cell_of_heap hb2]; rfl
  have d1 : w2.cell? ⟨b, 1, none⟩ = some v := by rw [Lib.cell_of_heap hb2]; rfl
  have f1 : w2.frozen? ⟨b, 1, none⟩ = false := Lib.frozen_of_heap hb2 1
  obtain ⟨ao, n', cap, rfl⟩ : ∃ ao n' cap, v' = .slice ao n' cap := by
    rcases hown'.2 with ⟨hv, _⟩ | ⟨g, cap, cur, hv, _⟩
    · exact ⟨_, _, _, hv⟩
    · exact ⟨_, _, _, hv⟩
  go_wp2
  go_ret
  refine ⟨rfl, ?_, ?_⟩
  · refine Lib.BuilderAt.put (T := 113) (e := 5) hB hb2 (bs' := Lib.byteCells (l ++ [c])) ?_ (by decide)
    rw [Lib.byteCells_length, List.length_append, Lib.byteCells_append]
    exact hown'
  · exact ((hb1.alloc (by omega) _).grown hgrow (by simp; omega) (fun k hk => (hown2.lt k hk).1)).setCell (p := ⟨b, 1, none⟩) hB _
end Go.Proofs.YtjikghndoklajaaGreatDoor
namespace Go.Proofs.YtjikghndoklajaaGreatDoor

def rowN (s : List UInt8) : Nat → Nat
  | 0 => 0
  | k + 1 => rowN s k + (s.getD k 0).toNat * 2 ^ (16 - 8 * k)
theorem row_0 (s : List UInt8) : rowN s 0 = 0 := rfl
theorem row_1 (s : List UInt8) : rowN s 1 = (s.getD 0 0).toNat * 65536 := by simp [rowN]
theorem row_2 (s : List UInt8) : rowN s 2 = (s.getD 0 0).toNat * 65536 + (s.getD 1 0).toNat * 256 := by
  rw [rowN, row_1]
theorem row_3 (s : List UInt8) : rowN s 3 = (s.getD 0 0).toNat * 65536 + (s.getD 1 0).toNat * 256 + (s.getD 2 0).toNat := by
  rw [rowN, row_2]
  simp
theorem row_lt (s : List UInt8) (k : Nat) (h : k ≤ 3) : rowN s k < 16777216 := by
  have h0 := (s.getD 0 0).toNat_lt
  have h1 := (s.getD 1 0).toNat_lt
  have h2 := (s.getD 2 0).toNat_lt
  rcases (by omega : k = 0 ∨ k = 1 ∨ k = 2 ∨ k = 3) with rfl | rfl | rfl | rfl
  · rw [row_0]; omega
  · rw [row_1]; omega
  · rw [row_2]; omega
  · rw [row_3]; omega
theorem or_add (a b i : Nat) (h : b < 2 ^ i) : (a * 2 ^ i) ||| b = a * 2 ^ i + b := by
  rw [Nat.mul_comm a, ← Nat.two_pow_add_eq_or_of_lt h]
theorem row_or (s : List UInt8) (k : Nat) (h : k < 3) : rowN s k ||| ((s.getD k 0).toNat * 2 ^ (16 - 8 * k)) = rowN s (k + 1) := by
  have h0 := (s.getD 0 0).toNat_lt
  have h1 := (s.getD 1 0).toNat_lt
  have h2 := (s.getD 2 0).toNat_lt
  rw [rowN]
  rcases (by omega : k = 0 ∨ k = 1 ∨ k = 2) with rfl | rfl | rfl
  · rw [row_0, Nat.zero_or, Nat.zero_add]
  · rw [row_1]
    have := or_add (s.getD 0 0).toNat ((s.getD 1 0).toNat * 256) 16 (by omega)
    simpa using this
  · rw [row_2]
    have := or_add ((s.getD 0 0).toNat * 256 + (s.getD 1 0).toNat) (s.getD 2 0).toNat 8 (by omega)
    have e : ((s.getD 0 0).toNat * 256 + (s.getD 1 0).toNat) * 2 ^ 8 = (s.getD 0 0).toNat * 65536 + (s.getD 1 0).toNat * 256 := by omega
    rw [e] at this
    simpa using this
def rowL (s : List UInt8) (p : Nat) : UInt8 := if p > s.length then 61 else letterB (rowN s s.length / 2 ^ (18 - 6 * p) % 64)
theorem row_letters (s : List UInt8) (h1 : 1 ≤ s.length) (h3 : s.length ≤ 3) : encB s = [rowL s 0, rowL s 1, rowL s 2, rowL s 3] := by
  match s, h1, h3 with
  | [a], _, _ =>
    have ha := a.toNat_lt
    have e : rowN [a] [a].length = a.toNat * 65536 := row_1 [a]
    have l : [a].length = 1 := rfl
    unfold rowL
    rw [encB, e, l, if_neg (by omega), if_neg (by omega), if_pos (by omega), if_pos (by omega)]
    have e0 : a.toNat * 65536 / 2 ^ (18 - 6 * 0) % 64 = a.toNat / 4 := by simp only [Nat.mul_zero, Nat.sub_zero, Nat.reducePow]; omega
    have e1 : a.toNat * 65536 / 2 ^ (18 - 6 * 1) % 64 = a.toNat % 4 * 16 := by simp only [Nat.mul_one, Nat.reduceSub, Nat.reducePow]; omega
    rw [e0, e1]
  | [a, b], _, _ =>
    have ha := a.toNat_lt
    have hb := b.toNat_lt
    have e : rowN [a, b] [a, b].length = a.toNat * 65536 + b.toNat * 256 := row_2 [a, b]
    have l : [a, b].length = 2 := rfl
    unfold rowL
    rw [encB, e, l, if_neg (by omega), if_neg (by omega), if_neg (by omega), if_pos (by omega)]
    have e0 : (a.toNat * 65536 + b.toNat * 256) / 2 ^ (18 - 6 * 0) % 64 = a.toNat / 4 := by simp only [Nat.mul_zero, Nat.sub_zero, Nat.reducePow]; omega
    have e1 : (a.toNat * 65536 + b.toNat * 256) / 2 ^ (18 - 6 * 1) % 64 = a.toNat % 4 * 16 + b.toNat / 16 := by simp only [Nat.mul_one, Nat.reduceSub, Nat.reducePow]; omega
    have e2 : (a.toNat * 65536 + b.toNat * 256) / 2 ^ (18 - 6 * 2) % 64 = b.toNat % 16 * 4 := by simp only [Nat.reduceMul, Nat.reduceSub, Nat.reducePow]; omega
    rw [e0, e1, e2]
  | [a, b, c], _, _ =>
    have ha := a.toNat_lt
    have hb := b.toNat_lt
    have hc := c.toNat_lt
    have e : rowN [a, b, c] [a, b, c].length = a.toNat * 65536 + b.toNat * 256 + c.toNat := row_3 [a, b, c]
    have l : [a, b, c].length = 3 := rfl
    unfold rowL
    rw [encB, e, l, if_neg (by omega), if_neg (by omega), if_neg (by omega), if_neg (by omega), encB]
    have e0 : (a.toNat * 65536 + b.toNat * 256 + c.toNat) / 2 ^ (18 - 6 * 0) % 64 = a.toNat / 4 := by simp only [Nat.mul_zero, Nat.sub_zero, Nat.reducePow]; omega
    have e1 : (a.toNat * 65536 + b.toNat * 256 + c.toNat) / 2 ^ (18 - 6 * 1) % 64 = a.toNat % 4 * 16 + b.toNat / 16 := by simp only [Nat.mul_one, Nat.reduceSub, Nat.reducePow]; omega
    have e2 : (a.toNat * 65536 + b.toNat * 256 + c.toNat) / 2 ^ (18 - 6 * 2) % 64 = b.toNat % 16 * 4 + c.toNat / 64 := by simp only [Nat.reduceMul, Nat.reduceSub, Nat.reducePow]; omega
    have e3 : (a.toNat * 65536 + b.toNat * 256 + c.toNat) / 2 ^ (18 - 6 * 3) % 64 = c.toNat % 64 := by simp only [Nat.reduceMul, Nat.reduceSub, Nat.reducePow]; omega
    rw [e0, e1, e2, e3]
end Go.Proofs.YtjikghndoklajaaGreatDoor
namespace Go.Proofs.YtjikghndoklajaaGreatDoor
open Go.RowKit

theorem wraps_u32 (n : Int) (h0 : 0 ≤ n) (h1 : n < 2 ^ 32) : IntKind.u32.wrap n = n := by rw [IntKind.wrap_u32]; omega
theorem or_u32 (a b : Nat) (ha : a < 2 ^ 32) (hb : b < 2 ^ 32) : bits .or .u32 (a : Int) (b : Int) = ((a ||| b : Nat) : Int) := (bits_nat .u32 32 (by decide) wraps_u32 a b ha hb).2
theorem mask_u32 (a i : Nat) (ha : a < 2 ^ 32) (hi : i ≤ 32) : bits .and .u32 (a : Int) (2 ^ i - 1) = ((a % 2 ^ i : Nat) : Int) := by
  rw [bits_mask .u32 32 (by decide) wraps_u32 i hi a (Int.natCast_nonneg _) (by exact_mod_cast ha)]
  push_cast
  rfl
theorem getD_text (s : ByteArray) (k : Nat) (hk : k < s.size) : s.data.toList.getD k 0 = s[k] := by
  have hl : s.data.toList.length = s.size := rfl
  rw [List.getD_eq_getElem?_getD, List.getElem?_eq_getElem (by omega)]
  rfl
theorem row_step (x : Nat) (s : List UInt8) (k : Nat) (hk : k < 3) (hx : x = (s.getD k 0).toNat) : bits BinOp.or IntKind.u32 (rowN s k : Int) ((x : Int) % 4294967296 * 2 ^ (16 - 8 * k) % 4294967296) = (rowN s (k + 1) : Int) := by
  subst hx
  have h0 := (s.getD k 0).toNat_lt
  have hlo := row_lt s k (by omega)
  have hhi := row_lt s (k + 1) (by omega)
  have hp : 2 ^ (16 - 8 * k) ≤ 2 ^ 16 := Nat.pow_le_pow_right (by omega) (by omega)
  have hm : (s.getD k 0).toNat * 2 ^ (16 - 8 * k) < 4294967296 := Nat.lt_of_le_of_lt (Nat.mul_le_mul (Nat.le_of_lt h0) hp) (by decide)
  have e : (((s.getD k 0).toNat : Int) % 4294967296 * 2 ^ (16 - 8 * k) % 4294967296) = (((s.getD k 0).toNat * 2 ^ (16 - 8 * k) : Nat) : Int) := by
    have e1 : ((s.getD k 0).toNat : Int) % 4294967296 = (s.getD k 0).toNat := by omega
    rw [e1]
    have : ((s.getD k 0).toNat : Int) * 2 ^ (16 - 8 * k) = (((s.getD k 0).toNat * 2 ^ (16 - 8 * k) : Nat) : Int) := by push_cast; rfl
    rw [this]
    omega
  rw [e, or_u32 _ _ (by omega) (by omega), row_or s k hk]

theorem alphabet_fin : ∀ v : Fin 64, (⟨#[65, 66, 67, 68, 69, 70, 71, 72, 73, 74, 75, 76, 77, 78, 79, 80, 81, 82, 83, 84, 85, 86, 87, 88, 89, 90, 97, 98, 99, 100, 101, 102, 103, 104, 105, 106, 107, 108, 109, 110, 111, 112, 113, 114, 115, 116, 117, 118, 119, 120, 121, 122, 48, 49, 50, 51, 52, 53, 54, 55, 56, 57, 43, 47]⟩ : ByteArray)[v.val]'(v.isLt) = letterB v.val := by decide +kernel
theorem alphabet_at (v : Nat) (h : v < 64) : (⟨#[65, 66, 67, 68, 69, 70, 71, 72, 73, 74, 75, 76, 77, 78, 79, 80, 81, 82, 83, 84, 85, 86, 87, 88, 89, 90, 97, 98, 99, 100, 101, 102, 103, 104, 105, 106, 107, 108, 109, 110, 111, 112, 113, 114, 115, 116, 117, 118, 119, 120, 121, 122, 48, 49, 50, 51, 52, 53, 54, 55, 56, 57, 43, 47]⟩ : ByteArray)[v]'(h) = letterB v := alphabet_fin ⟨v, h⟩

set_option maxRecDepth 100000 in
set_option maxHeartbeats 2000000 in
theorem wrow_any (B b : Nat) (l : List UInt8) (s : ByteArray) (w : World) (h : Lib.BuilderAt 113 5 B b (.pointer (some ⟨b, 0, none⟩)) (Lib.byteCells l) w) (hlen : l.length + 4 ≤ 1000000000) (hBw : B ≤ w.heap.size) (h1 : 1 ≤ s.size) (h3 : s.size ≤ 3) :
    Calls Tryz.prog 221 #[.pointer (some ⟨b, 0, none⟩), .string s] w fun e w' => e = .returned (.tuple #[]) ∧ Lib.BuilderAt 113 5 B b (.pointer (some ⟨b, 0, none⟩)) (Lib.byteCells (l ++ encB s.data.toList)) w' ∧ Below B w w' := by
  have hsl : s.data.toList.length = s.size := rfl
  have hrl := row_letters s.data.toList (by omega) (by omega)
  have Hrl := Lib.hid hrl
  have Hget := Lib.hid (getD_text s)
  clear hrl hsl
  go_enter Tryz.func221, Tryz.ntmps221
  go_wp2
  go_loop [4, 5, 9] (fun bv _ iv => ∃ k : Nat, k ≤ s.size ∧ iv = .int .i64 k ∧ bv = .int .u32 (rowN s.data.toList k)) (fun _ _ iv => s.size - (intOf iv).toNat)
  case atStart => exact ⟨0, by omega, rfl, rfl⟩
  case round =>
    obtain ⟨k, hk, rfl, rfl⟩ := hrel
    by_cases hlt : k < s.size
    · have hst := row_step s[k].toNat s.data.toList k (by omega) (by rw [Hget.out k hlt])
      have Hst := Lib.hid hst
      clear hst
      go_wp2
      exact ⟨⟨k + 1, by omega, by go_num, by rw [Hst.out]⟩, by simp [intOf]; omega⟩
    · obtain rfl : k = s.size := by omega
      have hlo := row_lt s.data.toList s.size h3
      have Hlo := Lib.hid hlo
      clear hlo Hget
      generalize hN : rowN s.data.toList s.size = N at Hlo
      have HN := Lib.hid hN
      clear hN
      have hb0 := Below.refl B w
      go_wp2
      go_loopw [6, 23] (fun _ iv wr => ∃ p : Nat, p ≤ 4 ∧ iv = .int .i64 p ∧ Lib.BuilderAt 113 5 B b (.pointer (some ⟨b, 0, none⟩)) (Lib.byteCells (l ++ (encB s.data.toList).take p)) wr ∧ Below B w wr) (fun _ iv _ => 4 - (intOf iv).toNat)
      case atStart => exact ⟨0, by omega, rfl, by simpa using h, hb0⟩
      case round =>
        obtain ⟨p, hp, rfl, hbd, hbr⟩ := hrel
        by_cases hp4 : p < 4
        · have hnx : (encB s.data.toList).take (p + 1) = (encB s.data.toList).take p ++ [rowL s.data.toList p] := by
            rw [Hrl.out]
            rcases (by omega : p = 0 ∨ p = 1 ∨ p = 2 ∨ p = 3) with rfl | rfl | rfl | rfl <;> rfl
          have Hnx := Lib.hid hnx
          clear hnx
          have hlp : (l ++ (encB s.data.toList).take p).length ≤ l.length + p := by simp; omega
          by_cases hps : s.size < p
          · have hr : rowL s.data.toList p = 61 := if_pos hps
            have hwr := bwrite_any B b (Lib.byteCells (l ++ (encB s.data.toList).take p)) ⟨#[61]⟩ wr (.inr hbd) (by rw [Lib.byteCells_length]; show _ + 1 ≤ _; omega) (by have := hbr.size; omega)
            rw [show Lib.byteCells (l ++ (encB s.data.toList).take p) ++ Lib.strCells ⟨#[61]⟩ = Lib.byteCells (l ++ (encB s.data.toList).take (p + 1)) by rw [Hnx.out, hr, ← List.append_assoc, Lib.byteCells_append (l ++ _)]; rfl] at hwr
            clear hr hlp
            go_wp2_with (go_at_call 74; refine hwr.mono ?_)
            rintro e w2 ⟨rfl, hb2, hw2⟩
            go_wp2
            exact ⟨⟨p + 1, by omega, by go_num, hb2, hbr.trans hw2⟩, by simp [intOf]; omega⟩
          · obtain ⟨v, hv64, hvN, hvb⟩ : ∃ v, v < 64 ∧ N / 2 ^ (18 - 6 * p) % 64 = v ∧ bits BinOp.and IntKind.u32 ((N : Int) / 2 ^ (18 - 6 * p)) 63 = (v : Int) := by
              refine ⟨_, Nat.mod_lt _ (by omega), rfl, ?_⟩
              have e : ((N : Int) / 2 ^ (18 - 6 * p)) = ((N / 2 ^ (18 - 6 * p) : Nat) : Int) := by push_cast; rfl
              rw [e]
              exact mask_u32 _ 6 (Nat.lt_of_le_of_lt (Nat.div_le_self _ _) (by have := Hlo.out; omega)) (by decide)
            have hr : rowL s.data.toList p = letterB v := by
              unfold rowL
              rw [if_neg (by exact hps)]
              show letterB (rowN s.data.toList s.size / 2 ^ (18 - 6 * p) % 64) = _
              rw [HN.out, hvN]
            have hwr := wbyte_any B b (l ++ (encB s.data.toList).take p) (letterB v) wr (.inr hbd) (by omega) (by have := hbr.size; omega)
            rw [List.append_assoc, ← hr, ← Hnx.out] at hwr
            have hwr' : ∀ c : UInt8, c = rowL s.data.toList p → Calls Tryz.prog 123 #[.pointer (some ⟨b, 0, none⟩), .int .u8 (c.toNat : Int)] wr fun e w' => e = .returned .nilIface ∧ (Lib.BuilderAt 113 5 B b (.pointer (some ⟨b, 0, none⟩)) (Lib.byteCells (l ++ (encB s.data.toList).take (p + 1))) w' ∧ Below B wr w') := fun c hc => by
              subst hc
              exact hwr
            clear hlp hvN hwr
            have Hr := Lib.hid hr
            clear hr
            go_wp2_with (go_at_call 123; refine (hwr' _ ((alphabet_at v hv64).trans Hr.out.symm)).mono ?_)
            rintro e w2 ⟨rfl, hb2, hw2⟩
            go_wp2
            exact ⟨⟨p + 1, by omega, by go_num, hb2, hbr.trans hw2⟩, by simp [intOf]; omega⟩
        · obtain rfl : p = 4 := by omega
          have hfin : (encB s.data.toList).take 4 = encB s.data.toList := by rw [Hrl.out]; rfl
          rw [hfin] at hbd
          clear hfin
          go_wp2
          go_end0
          exact ⟨rfl, hbd, hbr⟩

theorem enc_rows (s : List UInt8) (k : Nat) (h : 3 * k < s.length) : encB (s.take (3 * (k + 1))) = encB (s.take (3 * k)) ++ encB ((s.drop (3 * k)).take 3) := by
  have e : s.take (3 * (k + 1)) = s.take (3 * k) ++ (s.drop (3 * k)).take 3 := by
    rw [show 3 * (k + 1) = 3 * k + 3 by omega, List.take_add]
  rw [e, enc_append _ _ (by rw [List.length_take]; omega)]

theorem grow_new (n : Int) (h0 : 0 ≤ n) (h1 : n ≤ 281474976710656) (w : World) :
    Calls Tryz.prog 72 #[.pointer (some ⟨w.heap.size, 0, none⟩), .int .i64 n] (w.alloc (.cells #[.pointer none, .slice none 0 0] 113)) fun e w' => e = .returned (.tuple #[]) ∧ (Lib.BuilderAt 113 5 w.heap.size w.heap.size (.pointer (some ⟨w.heap.size, 0, none⟩)) [] w' ∧ Below w.heap.size w w') := by
  obtain ⟨m, rfl⟩ := Int.eq_ofNat_of_zero_le h0
  refine (Tryz.Builder_Grow_fresh w.heap.size w.heap.size m _ (Nat.le_refl _) (heap_alloc_new w _) (by simp) (by omega)).mono ?_
  rintro e w' ⟨he, hb, hw⟩
  exact ⟨he, hb, ((Below.refl _ w).alloc (Nat.le_refl _) _).trans hw⟩
theorem piece_data (s : ByteArray) (i j : Nat) : (s.extract i j).data.toList = (s.data.toList.drop i).take (j - i) := by
  rw [Lib.extract_data]

set_option maxRecDepth 100000 in
set_option maxHeartbeats 2000000 in
theorem enc_any (s : ByteArray) (w : World) (hs : s.size ≤ 100000000) :
    Calls Tryz.prog 219 #[.string s] w fun e w' => e = .returned (.string ⟨(encB s.data.toList).toArray⟩) ∧ Below w.heap.size w w' := by
  have hgrow := grow_new (4 * (((s.size : Int) + 2) / 3)) (by omega) (by omega) w
  have hl : s.data.toList.length = s.size := rfl
  have Hl := Lib.hid hl
  have hR : ((s.size : Int) + 2) / 3 = (((s.size + 2) / 3 : Nat) : Int) := by omega
  rw [hR] at hgrow
  have Hrows : Hid (∀ k, 3 * k < s.size → encB (s.data.toList.take (3 * (k + 1))) = encB (s.data.toList.take (3 * k)) ++ encB ((s.data.toList.drop (3 * k)).take 3)) := Lib.hid fun k hk => enc_rows _ k (by rw [hl]; exact hk)
  obtain ⟨R, hRd⟩ : ∃ R, (s.size + 2) / 3 = R := ⟨_, rfl⟩
  rw [hRd] at hR hgrow
  clear hl
  go_enter Tryz.func219, Tryz.ntmps219
  go_wp2_with (go_at_call 72; refine hgrow.mono ?_)
  rintro e w1 ⟨rfl, hb1, hw1⟩
  go_wp2
  go_loopw [5, 14] (fun _ iv wr => ∃ k : Nat, k ≤ R ∧ iv = .int .i64 k ∧ Lib.BuilderAt 113 5 w.heap.size w.heap.size (.pointer (some ⟨w.heap.size, 0, none⟩)) (Lib.byteCells (encB (s.data.toList.take (3 * k)))) wr ∧ Below w.heap.size w wr) (fun _ iv _ => R - (intOf iv).toNat)
  case atStart => exact ⟨0, by omega, rfl, by rw [Nat.mul_zero, List.take_zero]; exact hb1, hw1⟩
  case round =>
    obtain ⟨k, hk, rfl, hbd, hbr⟩ := hrel
    by_cases hlt : k < R
    · have hk3 : 3 * k < s.size := by omega
      have hd : (s.extract (3 * k) (min (3 * (k : Int) + 3) s.size).toNat).data.toList = (s.data.toList.drop (3 * k)).take 3 := by
        rw [piece_data]
        have e : (min (3 * (k : Int) + 3) s.size).toNat - 3 * k = min 3 (s.size - 3 * k) := by omega
        rw [e]
        have := Hl.out
        rcases (by omega : 3 ≤ s.size - 3 * k ∨ s.size - 3 * k < 3) with h | h
        · rw [show min 3 (s.size - 3 * k) = 3 by omega]
        · rw [List.take_of_length_le (by rw [List.length_drop]; omega), List.take_of_length_le (by rw [List.length_drop]; omega)]
      have hz : (s.extract (3 * k) (min (3 * (k : Int) + 3) s.size).toNat).size = min 3 (s.size - 3 * k) := by
        have := congrArg List.length hd
        rw [List.length_take, List.length_drop, Hl.out] at this
        exact this
      have hle := enc_len (s.data.toList.take (3 * k))
      rw [List.length_take, Hl.out] at hle
      have hbs := hbr.size
      have hcall := wrow_any w.heap.size w.heap.size (encB (s.data.toList.take (3 * k))) (s.extract (3 * k) (min (3 * (k : Int) + 3) s.size).toNat) wr hbd (by omega) hbs (by omega) (by omega)
      rw [hd, ← Hrows.out k hk3] at hcall
      clear hd hz hle
      go_wp2_with (go_at_call 221; refine hcall.mono ?_)
      rintro e w2 ⟨rfl, hb2, hw2⟩
      go_wp2
      exact ⟨⟨k + 1, by omega, by go_num, hb2, hbr.trans hw2⟩, by simp [intOf]; omega⟩
    · obtain rfl : k = R := by omega
      have hall : s.data.toList.take (3 * k) = s.data.toList := List.take_of_length_le (by rw [Hl.out]; omega)
      rw [hall] at hbd
      have hstr := Tryz.Builder_String_any w.heap.size w.heap.size (encB s.data.toList) wr (.inr hbd) hbr.size
      clear hall
      go_wp2_with (go_at_call 76; refine hstr.mono ?_)
      rintro e w2 ⟨rfl, hw2⟩
      go_wp2
      go_ret
      exact ⟨rfl, hbr.trans hw2⟩
end Go.Proofs.YtjikghndoklajaaGreatDoor
