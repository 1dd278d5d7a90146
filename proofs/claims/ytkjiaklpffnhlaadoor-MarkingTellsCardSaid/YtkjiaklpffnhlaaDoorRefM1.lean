/-
  The document's answer of layer 2, written in Go: a label's line, a text marked: told by the plain functions that tell the program.
-/
import Derived.Test.YtkjiaklpffnhlaaDoorMark
import Derived.Test.YtkjiaklpffnhlaaDoorRef5
namespace Go.Proofs.YtkjiaklpffnhlaaDoor
open Go.RowKit

set_option maxHeartbeats 2000000 in
set_option maxRecDepth 100000 in
theorem rline_any (B n c n' c' : Nat) (A A' : Option Addr) (ss ss' : List ByteArray) (l : Int) (k : Nat) (w : World) (hB : B ≤ w.heap.size) (h1 : Strs w B A n c ss) (h2 : Strs w B A' n' c' ss') (hsz : ∀ s ∈ ss ++ ss', s.size ≤ maxLen) (hK : k < 18446744073709551616) :
    Calls Tryd.prog 28 #[.agg #[.slice A n c, .slice A' n' c'], .agg #[.int .i64 l, .int .u64 k]] w fun e w' => e = .returned (.tuple #[.string ⟨(lineB ss ss' l k).1.toArray⟩, .int .i64 (lineB ss ss' l k).2]) ∧ Below w.heap.size w w' := by
  have hb0 : Below w.heap.size w ((w.alloc (.cells #[.slice A n c, .slice A' n' c'] 24)).alloc (.cells #[.int .i64 l, .int .u64 k] 27)) := ((Below.refl _ _).alloc (Nat.le_refl _) _).alloc (by simp) _
  have hp : (∃ t, printB ss ss' l k = (t, 0) ∧ t.length ≤ 1168 ∧ lineB ss ss' l k = (markW ++ t, 0)) ∨ ∃ z : Int, (z = 8 ∨ z = 2) ∧ printB ss ss' l k = ([], z) ∧ lineB ss ss' l k = ([], z) := by
    unfold lineB
    rcases print_cases ss ss' l k with ⟨hp, hr, _⟩ | ⟨hp, _⟩ | ⟨hp, _⟩
    · exact .inl ⟨_, hp, text_short hr l k, by rw [hp, if_pos rfl]⟩
    · exact .inr ⟨8, .inl rfl, hp, by rw [hp, if_neg (by decide)]⟩
    · exact .inr ⟨2, .inr rfl, hp, by rw [hp, if_neg (by decide)]⟩
  rcases hp with ⟨t, hp, ht, hl⟩ | ⟨z, hz, hp, hl⟩
  · have hst : (⟨t.toArray⟩ : ByteArray).size ≤ 1168 := ht
    have happ : (⟨#[77, 65, 82, 75, 58, 32]⟩ : ByteArray) ++ ⟨t.toArray⟩ = ⟨(lineB ss ss' l k).1.toArray⟩ := by rw [hl]; exact bytes_app markW t
    have hl2 : (lineB ss ss' l k).2 = 0 := by rw [hl]
    have Hp := Lib.hid hp
    have Happ := Lib.hid happ
    have Hl := Lib.hid hl2
    clear hp happ hl2 hl
    go_enter Tryd.func28, Tryd.ntmps28
    go_wp2_with fail
    refine (rprint_any B n c n' c' A A' ss ss' l k _ (by simp; omega) ((h1.alloc hB _).alloc (by simp; omega) _) ((h2.alloc hB _).alloc (by simp; omega) _) hsz hK).mono ?_
    rintro e w1 ⟨rfl, hb1⟩
    rw [Hp.out]
    go_wp2
    go_ret2
    exact ⟨by rw [Hl.out, ← Happ.out]; rfl, hb0.trans (hb1.mono (by simp; omega))⟩
  · have Hp := Lib.hid hp
    have Hl := Lib.hid hl
    clear hp hl
    rcases hz with rfl | rfl
    all_goals
      go_enter Tryd.func28, Tryd.ntmps28
      go_wp2_with fail
      refine (rprint_any B n c n' c' A A' ss ss' l k _ (by simp; omega) ((h1.alloc hB _).alloc (by simp; omega) _) ((h2.alloc hB _).alloc (by simp; omega) _) hsz hK).mono ?_
      rintro e w1 ⟨rfl, hb1⟩
      rw [Hp.out]
      go_wp2
      go_ret2
      exact ⟨by rw [Hl.out]; rfl, hb0.trans (hb1.mono (by simp; omega))⟩

set_option maxHeartbeats 2000000 in
set_option maxRecDepth 100000 in
theorem rmark_any (B n c n' c' : Nat) (A A' : Option Addr) (ss ss' : List ByteArray) (l : Int) (k : Nat) (t : ByteArray) (w : World) (hB : B ≤ w.heap.size) (h1 : Strs w B A n c ss) (h2 : Strs w B A' n' c' ss') (hsz : ∀ s ∈ ss ++ ss', s.size ≤ maxLen) (hK : k < 18446744073709551616) (ht : t.size < 4294967281) :
    Calls Tryd.prog 32 #[.agg #[.slice A n c, .slice A' n' c'], .agg #[.int .i64 l, .int .u64 k], .string t] w fun e w' => e = .returned (.tuple #[.string ⟨(markB ss ss' l k t.data.toList).1.toArray⟩, .int .i64 (markB ss ss' l k t.data.toList).2]) ∧ Below w.heap.size w w' := by
  have hb0 : Below w.heap.size w ((w.alloc (.cells #[.slice A n c, .slice A' n' c'] 24)).alloc (.cells #[.int .i64 l, .int .u64 k] 27)) := ((Below.refl _ _).alloc (Nat.le_refl _) _).alloc (by simp) _
  have hp : (∃ x, lineB ss ss' l k = (x, 0) ∧ x.length ≤ 1174 ∧ markB ss ss' l k t.data.toList = (x ++ ([13, 10] ++ t.data.toList), 0)) ∨ ∃ z : Int, (z = 8 ∨ z = 2) ∧ lineB ss ss' l k = ([], z) ∧ markB ss ss' l k t.data.toList = ([], z) := by
    unfold markB
    rcases print_cases ss ss' l k with ⟨hp, hr, hh⟩ | ⟨hp, _⟩ | ⟨hp, _⟩
    · have hl := line_yes hr hh
      refine .inl ⟨_, hl, ?_, by rw [hl, if_pos rfl]⟩
      have := text_short hr l k
      rw [List.length_append]
      have : markW.length = 6 := rfl
      omega
    · have hl : lineB ss ss' l k = ([], 8) := by unfold lineB; rw [hp, if_neg (by decide)]
      exact .inr ⟨8, .inl rfl, hl, by rw [hl, if_neg (by decide)]⟩
    · have hl : lineB ss ss' l k = ([], 2) := by unfold lineB; rw [hp, if_neg (by decide)]
      exact .inr ⟨2, .inr rfl, hl, by rw [hl, if_neg (by decide)]⟩
  rcases hp with ⟨x, hp, hx, hl⟩ | ⟨z, hz, hp, hl⟩
  · have hst : (⟨x.toArray⟩ : ByteArray).size ≤ 1174 := hx
    have happ : (⟨x.toArray⟩ : ByteArray) ++ ⟨#[13, 10]⟩ ++ t = ⟨(markB ss ss' l k t.data.toList).1.toArray⟩ := by
      rw [hl]
      conv => lhs; rw [← bytes_of t]
      rw [show (⟨#[13, 10]⟩ : ByteArray) = ⟨([13, 10] : List UInt8).toArray⟩ from rfl, bytes_app, bytes_app, List.append_assoc]
    have hl2 : (markB ss ss' l k t.data.toList).2 = 0 := by rw [hl]
    have Hp := Lib.hid hp
    have Happ := Lib.hid happ
    have Hl := Lib.hid hl2
    clear hp happ hl2 hl
    go_enter Tryd.func32, Tryd.ntmps32
    go_wp2_with fail
    refine (rline_any B n c n' c' A A' ss ss' l k _ (by simp; omega) ((h1.alloc hB _).alloc (by simp; omega) _) ((h2.alloc hB _).alloc (by simp; omega) _) hsz hK).mono ?_
    rintro e w1 ⟨rfl, hb1⟩
    rw [Hp.out]
    go_wp2
    go_ret2
    exact ⟨by rw [Hl.out, ← Happ.out]; rfl, hb0.trans (hb1.mono (by simp; omega))⟩
  · have Hp := Lib.hid hp
    have Hl := Lib.hid hl
    clear hp hl
    rcases hz with rfl | rfl
    all_goals
      go_enter Tryd.func32, Tryd.ntmps32
      go_wp2_with fail
      refine (rline_any B n c n' c' A A' ss ss' l k _ (by simp; omega) ((h1.alloc hB _).alloc (by simp; omega) _) ((h2.alloc hB _).alloc (by simp; omega) _) hsz hK).mono ?_
      rintro e w1 ⟨rfl, hb1⟩
      rw [Hp.out]
      go_wp2
      go_ret2
      exact ⟨by rw [Hl.out]; rfl, hb0.trans (hb1.mono (by simp; omega))⟩
end Go.Proofs.YtkjiaklpffnhlaaDoor
