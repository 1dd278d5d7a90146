/-
  MarkingTells returns true, for any lists of strings, any label and any text: the walk.
-/
import Derived.Test.YtkjiaklpffnhlaaDoorAwakeM
import Derived.Test.YtkjiaklpffnhlaaDoorRefM1
import Derived.Test.YtkjiaklpffnhlaaDoorRefM3
import Derived.Test.YtkjiaklpffnhlaaDoorIn
import Derived.Test.YtkjiaklpffnhlaaDoorFew
import Derived.Deep.RegionHeld3
namespace Go.Proofs.YtkjiaklpffnhlaaDoor
open Go.RowKit

theorem read_vals (r : (Nat × Int) × List UInt8 × Int) : ∃ (L k z : Int) (t : ByteArray), readV r = .tuple #[.agg #[.int .i64 L, .int .u64 k], .string t, .int .i64 z] := by
  obtain ⟨⟨L, k⟩, t, z⟩ := r
  exact ⟨L, k, z, _, rfl⟩

set_option maxRecDepth 100000 in
set_option maxHeartbeats 16000000 in
theorem mtells_nat (B n c n' c' : Nat) (A A' : Option Addr) (ss ss' : List ByteArray) (la m : Int) (ca : Nat) (s : ByteArray) (w : World) (hB : B ≤ w.heap.size) (h1 : Strs w B A n c ss) (h2 : Strs w B A' n' c' ss') (hsz : ∀ s ∈ ss ++ ss', s.size ≤ maxLen)
    (hm : w.cell? ⟨0, 0, none⟩ = some (.int .i64 m)) (hc1 : ca < 18446744073709551616) (hs : s.size ≤ maxLen) :
    Calls Tryd.prog 5 #[.agg #[.slice A n c, .slice A' n' c'], .agg #[.int .i64 la, .int .u64 ca], .string s] w fun e w' => e = .returned (.bool true) ∧ Below w.heap.size w w' := by
  have hnot : ∀ (x : Bool) (w : World), (Op.unary .not (.bool x)).run Tryd.prog w = .ok (.bool (!x)) w := fun _ _ => rfl
  have h0 := lt_of_cell hm
  simp at h0
  have hbw : Below w.heap.size w ((w.alloc (.cells #[.slice A n c, .slice A' n' c'] 24)).alloc (.cells #[.int .i64 la, .int .u64 ca] 27)) := ((Below.refl _ _).alloc (Nat.le_refl _) _).alloc (by simp) _
  have hm1 := (hbw.cell (p := ⟨0, 0, none⟩) (by simpa using h0)).trans hm
  have haw := awakeM_any m _ hm1
  have hl1 := h1.len
  have hl2 := h2.len
  unfold maxLen at hs
  go_enter Tryd.func5, Tryd.ntmps5
  go_wp2_with fail
  refine haw.mono ?_
  rintro e w1 ⟨rfl, hb1⟩
  have a0 : w1.cell? ⟨w.heap.size, 0, none⟩ = some (.slice A n c) := by rw [hb1.cell (by simp; try omega)]; go_simp
  have a1 : w1.cell? ⟨w.heap.size, 1, none⟩ = some (.slice A' n' c') := by rw [hb1.cell (by simp; try omega)]; go_simp
  have b0 : w1.cell? ⟨w.heap.size + 1, 0, none⟩ = some (.int .i64 la) := by rw [hb1.cell (by simp; try omega)]; go_simp
  have b1 : w1.cell? ⟨w.heap.size + 1, 1, none⟩ = some (.int .u64 ca) := by rw [hb1.cell (by simp; try omega)]; go_simp
  have hz1 : w.heap.size + 2 ≤ w1.heap.size := by have := hb1.size; simp at this; omega
  have hbw1 : Below w.heap.size w w1 := hbw.trans (hb1.mono (by simp; omega))
  have s1 := h1.below (hbw1.mono hB)
  have s2 := h2.below (hbw1.mono hB)
  have mm := (hbw1.cell (p := ⟨0, 0, none⟩) (by simpa using h0)).trans hm
  have hK : Hid (∀ W, Below w1.heap.size w1 W → W.cell? ⟨w.heap.size, 0, none⟩ = some (.slice A n c) ∧ W.cell? ⟨w.heap.size, 1, none⟩ = some (.slice A' n' c') ∧ W.cell? ⟨w.heap.size + 1, 0, none⟩ = some (.int .i64 la) ∧ W.cell? ⟨w.heap.size + 1, 1, none⟩ = some (.int .u64 ca) ∧ Strs W B A n c ss ∧ Strs W B A' n' c' ss' ∧ W.cell? ⟨0, 0, none⟩ = some (.int .i64 m) ∧ Below w.heap.size w W) := Lib.hid fun W hb =>
    ⟨(hb.cell (p := ⟨w.heap.size, 0, none⟩) (by simp; omega)).trans a0, (hb.cell (p := ⟨w.heap.size, 1, none⟩) (by simp; omega)).trans a1, (hb.cell (p := ⟨w.heap.size + 1, 0, none⟩) (by simp; omega)).trans b0, (hb.cell (p := ⟨w.heap.size + 1, 1, none⟩) (by simp; omega)).trans b1, s1.below (hb.mono (by omega)), s2.below (hb.mono (by omega)), (hb.cell (p := ⟨0, 0, none⟩) (by simp; omega)).trans mm, hbw1.trans (hb.mono (by omega))⟩
  have Hsz := Lib.hid hsz
  have Hl1 := Lib.hid hl1
  have Hl2 := Lib.hid hl2
  clear hb1 hbw hm hm1 haw h1 h2 hbw1 mm hsz hl1 hl2
  go_wp2_with fail
  refine (few_any B n c n' c' A A' ss ss' w1 (by omega) s1 s2 Hsz.out).mono ?_
  rintro e w2 ⟨⟨b, rfl⟩, hb2⟩
  clear a0 a1 b0 b1 s1 s2
  obtain ⟨a0, a1, b0, b1, s1, s2, mm, hw2⟩ := hK.out _ hb2
  have hz2 := hb2.size
  cases b
  · go_wp2
    go_ret
    exact ⟨rfl, hw2⟩
  by_cases h3 : s.size ≤ 5000
  case neg =>
    go_wp2
    go_ret
    exact ⟨rfl, hw2⟩
  obtain ⟨L, k, z, rt, hrv⟩ := read_vals (readB ss ss' s.data.toList)
  obtain ⟨⟨t, pc⟩, hln⟩ : ∃ q, lineB ss ss' la ca = q := ⟨_, rfl⟩
  obtain ⟨⟨mt, mc⟩, hmk⟩ : ∃ q, markB ss ss' la ca s.data.toList = q := ⟨_, rfl⟩
  obtain ⟨ck, hck⟩ : ∃ q, checkB ss ss' la ca s.data.toList = q := ⟨_, rfl⟩
  have Hrv := Lib.hid hrv
  have Hln := Lib.hid hln
  have Hmk := Lib.hid hmk
  have Hck := Lib.hid hck
  clear hrv hln hmk hck
  go_wp2_with fail
  refine (line_any B n c n' c' A A' ss ss' la ca w2 (by omega) s1 s2 Hsz.out).mono ?_
  rintro e w3 ⟨rfl, hb3⟩
  rw [Hln.out]
  have hb3' := hb2.trans (hb3.mono hb2.size)
  have hz3 := hb3'.size
  clear a0 a1 b0 b1 s1 s2 mm hw2
  obtain ⟨a0, a1, b0, b1, s1, s2, mm, hw3⟩ := hK.out _ hb3'
  go_wp2_with fail
  refine (rline_any B n c n' c' A A' ss ss' la ca w3 (by omega) s1 s2 Hsz.out hc1).mono ?_
  rintro e w4 ⟨rfl, hb4⟩
  rw [Hln.out]
  have hb4' := hb3'.trans (hb4.mono hb3'.size)
  have hz4 := hb4'.size
  clear a0 a1 b0 b1 s1 s2 mm hw3
  obtain ⟨a0, a1, b0, b1, s1, s2, mm, hw4⟩ := hK.out _ hb4'
  go_wp2_with fail
  refine (read_any B n c n' c' A A' ss ss' s m w4 (by omega) s1 s2 Hsz.out (by omega) mm).mono ?_
  rintro e w5 ⟨rfl, hb5⟩
  rw [Hrv.out]
  have hb5' := hb4'.trans (hb5.mono hb4'.size)
  have hz5 := hb5'.size
  have hb6' : Below w1.heap.size w1 (w5.alloc (.cells #[.int .i64 L, .int .u64 k] 27)) := hb5'.alloc hz5 _
  have k0 : (w5.alloc (.cells #[.int .i64 L, .int .u64 k] 27)).cell? ⟨w5.heap.size, 0, none⟩ = some (.int .i64 L) := by go_simp
  have k1 : (w5.alloc (.cells #[.int .i64 L, .int .u64 k] 27)).cell? ⟨w5.heap.size, 1, none⟩ = some (.int .u64 k) := by go_simp
  have hz6 : (w5.alloc (.cells #[.int .i64 L, .int .u64 k] 27)).heap.size = w5.heap.size + 1 := by simp
  clear a0 a1 b0 b1 s1 s2 mm hw4
  obtain ⟨a0, a1, b0, b1, s1, s2, mm, hw6⟩ := hK.out _ hb6'
  go_wp2_with fail
  refine (rread_any B n c n' c' A A' ss ss' s _ (by omega) s1 s2 Hsz.out (by omega)).mono ?_
  rintro e w7 ⟨rfl, hb7⟩
  rw [Hrv.out]
  have k2 := (hb7.cell (p := ⟨w5.heap.size, 0, none⟩) (by simp)).trans k0
  have k3 := (hb7.cell (p := ⟨w5.heap.size, 1, none⟩) (by simp)).trans k1
  have y7 : w5.heap.size < w7.heap.size := by have := hb7.size; omega
  have hb7' := hb6'.trans (hb7.mono hb6'.size)
  have hz7 := hb7'.size
  have hb8' : Below w1.heap.size w1 (w7.alloc (.cells #[.int .i64 L, .int .u64 k] 27)) := hb7'.alloc hz7 _
  have k4 : (w7.alloc (.cells #[.int .i64 L, .int .u64 k] 27)).cell? ⟨w5.heap.size, 0, none⟩ = some (.int .i64 L) := by go_simp
  have k5 : (w7.alloc (.cells #[.int .i64 L, .int .u64 k] 27)).cell? ⟨w5.heap.size, 1, none⟩ = some (.int .u64 k) := by go_simp
  have l4 : (w7.alloc (.cells #[.int .i64 L, .int .u64 k] 27)).cell? ⟨w7.heap.size, 0, none⟩ = some (.int .i64 L) := by go_simp
  have l5 : (w7.alloc (.cells #[.int .i64 L, .int .u64 k] 27)).cell? ⟨w7.heap.size, 1, none⟩ = some (.int .u64 k) := by go_simp
  have hz8 : (w7.alloc (.cells #[.int .i64 L, .int .u64 k] 27)).heap.size = w7.heap.size + 1 := by simp
  clear a0 a1 b0 b1 s1 s2 mm hw6 k0 k1 k2 k3
  obtain ⟨a0, a1, b0, b1, s1, s2, mm, hw8⟩ := hK.out _ hb8'
  go_wp2_with fail
  refine (mark_any B n c n' c' A A' ss ss' la ca s _ (by omega) s1 s2 Hsz.out (by omega)).mono ?_
  rintro e w9 ⟨rfl, hb9⟩
  rw [Hmk.out]
  have m4 := (hb9.cell (p := ⟨w5.heap.size, 0, none⟩) (by simp; omega)).trans k4
  have m5 := (hb9.cell (p := ⟨w5.heap.size, 1, none⟩) (by simp; omega)).trans k5
  have n4 := (hb9.cell (p := ⟨w7.heap.size, 0, none⟩) (by simp)).trans l4
  have n5 := (hb9.cell (p := ⟨w7.heap.size, 1, none⟩) (by simp)).trans l5
  have y9 : w7.heap.size < w9.heap.size := by have := hb9.size; omega
  clear k4 k5 l4 l5
  have hb9' := hb8'.trans (hb9.mono hb8'.size)
  have hz9 := hb9'.size
  clear a0 a1 b0 b1 s1 s2 mm hw8
  obtain ⟨a0, a1, b0, b1, s1, s2, mm, hw9⟩ := hK.out _ hb9'
  go_wp2_with fail
  refine (rmark_any B n c n' c' A A' ss ss' la ca s w9 (by omega) s1 s2 Hsz.out hc1 (by omega)).mono ?_
  rintro e w10 ⟨rfl, hb10⟩
  rw [Hmk.out]
  have k4 := (hb10.cell (p := ⟨w5.heap.size, 0, none⟩) (by simp; omega)).trans m4
  have k5 := (hb10.cell (p := ⟨w5.heap.size, 1, none⟩) (by simp; omega)).trans m5
  have l4 := (hb10.cell (p := ⟨w7.heap.size, 0, none⟩) (by simp; omega)).trans n4
  have l5 := (hb10.cell (p := ⟨w7.heap.size, 1, none⟩) (by simp; omega)).trans n5
  have y10 : w7.heap.size < w10.heap.size := by have := hb10.size; omega
  clear m4 m5 n4 n5
  have hb10' := hb9'.trans (hb10.mono hb9'.size)
  have hz10 := hb10'.size
  clear a0 a1 b0 b1 s1 s2 mm hw9
  obtain ⟨a0, a1, b0, b1, s1, s2, mm, hw10⟩ := hK.out _ hb10'
  have hvz := hb10'.size
  clear hK
  have hK2 : Hid (∀ W, Below w10.heap.size w10 W → (fun W => W.cell? ⟨w.heap.size, 0, none⟩ = some (.slice A n c) ∧ W.cell? ⟨w.heap.size, 1, none⟩ = some (.slice A' n' c') ∧ W.cell? ⟨w.heap.size + 1, 0, none⟩ = some (.int .i64 la) ∧ W.cell? ⟨w.heap.size + 1, 1, none⟩ = some (.int .u64 ca) ∧ W.cell? ⟨w5.heap.size, 0, none⟩ = some (.int .i64 L) ∧ W.cell? ⟨w5.heap.size, 1, none⟩ = some (.int .u64 k) ∧ W.cell? ⟨w7.heap.size, 0, none⟩ = some (.int .i64 L) ∧ W.cell? ⟨w7.heap.size, 1, none⟩ = some (.int .u64 k) ∧ Below w10.heap.size w10 W) W) := Lib.hid fun W hb =>
    ⟨(hb.cell (p := ⟨w.heap.size, 0, none⟩) (by simp; omega)).trans a0, (hb.cell (p := ⟨w.heap.size, 1, none⟩) (by simp; omega)).trans a1, (hb.cell (p := ⟨w.heap.size + 1, 0, none⟩) (by simp; omega)).trans b0, (hb.cell (p := ⟨w.heap.size + 1, 1, none⟩) (by simp; omega)).trans b1,
      (hb.cell (p := ⟨w5.heap.size, 0, none⟩) (by simp; omega)).trans k4, (hb.cell (p := ⟨w5.heap.size, 1, none⟩) (by simp; omega)).trans k5, (hb.cell (p := ⟨w7.heap.size, 0, none⟩) (by simp; omega)).trans l4, (hb.cell (p := ⟨w7.heap.size, 1, none⟩) (by simp; omega)).trans l5, hb⟩
  have hC : Hid (∀ (W : World), (fun W => W.cell? ⟨w.heap.size, 0, none⟩ = some (.slice A n c) ∧ W.cell? ⟨w.heap.size, 1, none⟩ = some (.slice A' n' c') ∧ W.cell? ⟨w.heap.size + 1, 0, none⟩ = some (.int .i64 la) ∧ W.cell? ⟨w.heap.size + 1, 1, none⟩ = some (.int .u64 ca) ∧ W.cell? ⟨w5.heap.size, 0, none⟩ = some (.int .i64 L) ∧ W.cell? ⟨w5.heap.size, 1, none⟩ = some (.int .u64 k) ∧ W.cell? ⟨w7.heap.size, 0, none⟩ = some (.int .i64 L) ∧ W.cell? ⟨w7.heap.size, 1, none⟩ = some (.int .u64 k) ∧ Below w10.heap.size w10 W) W → Calls Tryd.prog 33 #[.agg #[.slice A n c, .slice A' n' c'], .agg #[.int .i64 la, .int .u64 ca], .string s] W fun e V => e = .returned (.int .i64 ck) ∧ (fun W => W.cell? ⟨w.heap.size, 0, none⟩ = some (.slice A n c) ∧ W.cell? ⟨w.heap.size, 1, none⟩ = some (.slice A' n' c') ∧ W.cell? ⟨w.heap.size + 1, 0, none⟩ = some (.int .i64 la) ∧ W.cell? ⟨w.heap.size + 1, 1, none⟩ = some (.int .u64 ca) ∧ W.cell? ⟨w5.heap.size, 0, none⟩ = some (.int .i64 L) ∧ W.cell? ⟨w5.heap.size, 1, none⟩ = some (.int .u64 k) ∧ W.cell? ⟨w7.heap.size, 0, none⟩ = some (.int .i64 L) ∧ W.cell? ⟨w7.heap.size, 1, none⟩ = some (.int .u64 k) ∧ Below w10.heap.size w10 W) V) := Lib.hid fun W hW => by
    have := check_any_m B n c n' c' A A' ss ss' la ca s m W (by have := hW.2.2.2.2.2.2.2.2.size; omega) (s1.below (hW.2.2.2.2.2.2.2.2.mono (by omega))) (s2.below (hW.2.2.2.2.2.2.2.2.mono (by omega))) Hsz.out (by omega) ((hW.2.2.2.2.2.2.2.2.cell (p := ⟨0, 0, none⟩) (by simp; omega)).trans mm)
    rw [Hck.out] at this
    exact this.mono fun e V ⟨he, hb⟩ => ⟨he, hK2.out _ (hW.2.2.2.2.2.2.2.2.trans (hb.mono hW.2.2.2.2.2.2.2.2.size))⟩
  have hR : Hid (∀ (W : World), (fun W => W.cell? ⟨w.heap.size, 0, none⟩ = some (.slice A n c) ∧ W.cell? ⟨w.heap.size, 1, none⟩ = some (.slice A' n' c') ∧ W.cell? ⟨w.heap.size + 1, 0, none⟩ = some (.int .i64 la) ∧ W.cell? ⟨w.heap.size + 1, 1, none⟩ = some (.int .u64 ca) ∧ W.cell? ⟨w5.heap.size, 0, none⟩ = some (.int .i64 L) ∧ W.cell? ⟨w5.heap.size, 1, none⟩ = some (.int .u64 k) ∧ W.cell? ⟨w7.heap.size, 0, none⟩ = some (.int .i64 L) ∧ W.cell? ⟨w7.heap.size, 1, none⟩ = some (.int .u64 k) ∧ Below w10.heap.size w10 W) W → Calls Tryd.prog 34 #[.agg #[.slice A n c, .slice A' n' c'], .agg #[.int .i64 la, .int .u64 ca], .string s] W fun e V => e = .returned (.int .i64 ck) ∧ (fun W => W.cell? ⟨w.heap.size, 0, none⟩ = some (.slice A n c) ∧ W.cell? ⟨w.heap.size, 1, none⟩ = some (.slice A' n' c') ∧ W.cell? ⟨w.heap.size + 1, 0, none⟩ = some (.int .i64 la) ∧ W.cell? ⟨w.heap.size + 1, 1, none⟩ = some (.int .u64 ca) ∧ W.cell? ⟨w5.heap.size, 0, none⟩ = some (.int .i64 L) ∧ W.cell? ⟨w5.heap.size, 1, none⟩ = some (.int .u64 k) ∧ W.cell? ⟨w7.heap.size, 0, none⟩ = some (.int .i64 L) ∧ W.cell? ⟨w7.heap.size, 1, none⟩ = some (.int .u64 k) ∧ Below w10.heap.size w10 W) V) := Lib.hid fun W hW => by
    have := rcheck_any_m B n c n' c' A A' ss ss' la ca s W (by have := hW.2.2.2.2.2.2.2.2.size; omega) (s1.below (hW.2.2.2.2.2.2.2.2.mono (by omega))) (s2.below (hW.2.2.2.2.2.2.2.2.mono (by omega))) Hsz.out (by omega) hc1
    rw [Hck.out] at this
    exact this.mono fun e V ⟨he, hb⟩ => ⟨he, hK2.out _ (hW.2.2.2.2.2.2.2.2.trans (hb.mono hW.2.2.2.2.2.2.2.2.size))⟩
  have hDw : Hid (∀ W, (fun W => W.cell? ⟨w.heap.size, 0, none⟩ = some (.slice A n c) ∧ W.cell? ⟨w.heap.size, 1, none⟩ = some (.slice A' n' c') ∧ W.cell? ⟨w.heap.size + 1, 0, none⟩ = some (.int .i64 la) ∧ W.cell? ⟨w.heap.size + 1, 1, none⟩ = some (.int .u64 ca) ∧ W.cell? ⟨w5.heap.size, 0, none⟩ = some (.int .i64 L) ∧ W.cell? ⟨w5.heap.size, 1, none⟩ = some (.int .u64 k) ∧ W.cell? ⟨w7.heap.size, 0, none⟩ = some (.int .i64 L) ∧ W.cell? ⟨w7.heap.size, 1, none⟩ = some (.int .u64 k) ∧ Below w10.heap.size w10 W) W → (fun W => W.cell? ⟨w.heap.size, 0, none⟩ = some (.slice A n c) ∧ W.cell? ⟨w.heap.size, 1, none⟩ = some (.slice A' n' c') ∧ W.cell? ⟨w.heap.size + 1, 0, none⟩ = some (.int .i64 la) ∧ W.cell? ⟨w.heap.size + 1, 1, none⟩ = some (.int .u64 ca) ∧ W.cell? ⟨w5.heap.size, 0, none⟩ = some (.int .i64 L) ∧ W.cell? ⟨w5.heap.size, 1, none⟩ = some (.int .u64 k) ∧ W.cell? ⟨w7.heap.size, 0, none⟩ = some (.int .i64 L) ∧ W.cell? ⟨w7.heap.size, 1, none⟩ = some (.int .u64 k) ∧ Below w10.heap.size w10 W) W.drew) := Lib.hid fun W hW => hK2.out _ hW.2.2.2.2.2.2.2.2.drew
  have hS1 := hK2.out _ (Below.refl _ w10)
  have hql : ∀ l k W, (Op.equalIn 10000 27 (.agg #[.int .i64 l, .int .u64 k]) (.agg #[.int .i64 l, .int .u64 k])).run Tryd.prog W = .ok true W := fun l k W => by rw [eql_label, decide_eq_true ⟨rfl, rfl⟩]
  clear a0 a1 b0 b1 k4 k5 l4 l5 mm
  go_wp2_with fail
  go_region_held3 (fun W => W.cell? ⟨w.heap.size, 0, none⟩ = some (.slice A n c) ∧ W.cell? ⟨w.heap.size, 1, none⟩ = some (.slice A' n' c') ∧ W.cell? ⟨w.heap.size + 1, 0, none⟩ = some (.int .i64 la) ∧ W.cell? ⟨w.heap.size + 1, 1, none⟩ = some (.int .u64 ca) ∧ W.cell? ⟨w5.heap.size, 0, none⟩ = some (.int .i64 L) ∧ W.cell? ⟨w5.heap.size, 1, none⟩ = some (.int .u64 k) ∧ W.cell? ⟨w7.heap.size, 0, none⟩ = some (.int .i64 L) ∧ W.cell? ⟨w7.heap.size, 1, none⟩ = some (.int .u64 k) ∧ Below w10.heap.size w10 W)
    (first | assumption | exact hDw.out _ (by assumption) | (trace_state; fail))
    (first
      | (go_at_call 33; refine (hC.out _ ?_).mono ?_; assumption; rintro e wz ⟨rfl, hSz⟩)
      | (go_at_call 34; refine (hR.out _ ?_).mono ?_; assumption; rintro e wz ⟨rfl, hSz⟩))
  all_goals
    rename_i hS
    have hBv := hS.2.2.2.2.2.2.2.2
    go_wp2
    go_ret
    exact ⟨rfl, hw10.trans (hBv.mono (by omega))⟩

theorem mtells_walk (B n c n' c' : Nat) (A A' : Option Addr) (ss ss' : List ByteArray) (la ca m : Int) (s : ByteArray) (w : World) (hB : B ≤ w.heap.size) (h1 : Strs w B A n c ss) (h2 : Strs w B A' n' c' ss') (hsz : ∀ s ∈ ss ++ ss', s.size ≤ maxLen)
    (hm : w.cell? ⟨0, 0, none⟩ = some (.int .i64 m)) (hc1 : 0 ≤ ca ∧ ca < 18446744073709551616) (hs : s.size ≤ maxLen) :
    Calls Tryd.prog 5 #[.agg #[.slice A n c, .slice A' n' c'], .agg #[.int .i64 la, .int .u64 ca], .string s] w fun e w' => e = .returned (.bool true) ∧ Below w.heap.size w w' := by
  obtain ⟨a, rfl⟩ := Int.eq_ofNat_of_zero_le hc1.1
  exact mtells_nat B n c n' c' A A' ss ss' la m a s w hB h1 h2 hsz hm (by omega) hs
end Go.Proofs.YtkjiaklpffnhlaaDoor
