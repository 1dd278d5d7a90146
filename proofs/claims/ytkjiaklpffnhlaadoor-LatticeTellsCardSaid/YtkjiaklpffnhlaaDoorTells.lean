/-
  LatticeTells returns true, for any lists of strings, any two labels and any text: the walk.
-/
import Derived.Test.YtkjiaklpffnhlaaDoorAwake
import Derived.Test.YtkjiaklpffnhlaaDoorRef2M
import Derived.Test.YtkjiaklpffnhlaaDoorRef5
import Derived.Test.YtkjiaklpffnhlaaDoorRef6
import Derived.Test.YtkjiaklpffnhlaaDoorIn
import Derived.Test.YtkjiaklpffnhlaaDoorFew
import Derived.Test.YtkjiaklpffnhlaaDoorEql
import Derived.Deep.RegionHeld3
namespace Go.Proofs.YtkjiaklpffnhlaaDoor
open Go.RowKit

theorem parse_vals (r : Option (Nat × Int)) : ∃ L k z : Int, parseV r = .tuple #[.agg #[.int .i64 L, .int .u64 k], .int .i64 z] := by
  rcases r with _ | ⟨L, k⟩
  · exact ⟨0, 0, 2, rfl⟩
  · exact ⟨L, k, 0, rfl⟩

set_option maxRecDepth 100000 in
set_option maxHeartbeats 16000000 in
theorem ltells_nat (B n c n' c' : Nat) (A A' : Option Addr) (ss ss' : List ByteArray) (la lb m : Int) (ca cb : Nat) (s : ByteArray) (w : World) (hB : B ≤ w.heap.size) (h1 : Strs w B A n c ss) (h2 : Strs w B A' n' c' ss') (hsz : ∀ s ∈ ss ++ ss', s.size ≤ maxLen)
    (hm : w.cell? ⟨0, 0, none⟩ = some (.int .i64 m)) (hc1 : ca < 18446744073709551616) (hc2 : cb < 18446744073709551616) (hs : s.size ≤ maxLen) :
    Calls Tryd.prog 3 #[.agg #[.slice A n c, .slice A' n' c'], .agg #[.int .i64 la, .int .u64 ca], .agg #[.int .i64 lb, .int .u64 cb], .string s] w fun e w' => e = .returned (.bool true) ∧ Below w.heap.size w w' := by
  have hnot : ∀ (x : Bool) (w : World), (Op.unary .not (.bool x)).run Tryd.prog w = .ok (.bool (!x)) w := fun _ _ => rfl
  have h0 := lt_of_cell hm
  simp at h0
  have hbw : Below w.heap.size w (((w.alloc (.cells #[.slice A n c, .slice A' n' c'] 24)).alloc (.cells #[.int .i64 la, .int .u64 ca] 27)).alloc (.cells #[.int .i64 lb, .int .u64 cb] 27)) := (((Below.refl _ _).alloc (Nat.le_refl _) _).alloc (by simp) _).alloc (by simp; omega) _
  have hm1 := (hbw.cell (p := ⟨0, 0, none⟩) (by simpa using h0)).trans hm
  have haw := awake_any m _ hm1
  have hl1 := h1.len
  have hl2 := h2.len
  unfold maxLen at hs
  go_enter Tryd.func3, Tryd.ntmps3
  go_wp2_with fail
  refine haw.mono ?_
  rintro e w1 ⟨rfl, hb1⟩
  have a0 : w1.cell? ⟨w.heap.size, 0, none⟩ = some (.slice A n c) := by rw [hb1.cell (by simp; try omega)]; go_simp
  have a1 : w1.cell? ⟨w.heap.size, 1, none⟩ = some (.slice A' n' c') := by rw [hb1.cell (by simp; try omega)]; go_simp
  have b0 : w1.cell? ⟨w.heap.size + 1, 0, none⟩ = some (.int .i64 la) := by rw [hb1.cell (by simp; try omega)]; go_simp
  have b1 : w1.cell? ⟨w.heap.size + 1, 1, none⟩ = some (.int .u64 ca) := by rw [hb1.cell (by simp; try omega)]; go_simp
  have c0 : w1.cell? ⟨w.heap.size + 1 + 1, 0, none⟩ = some (.int .i64 lb) := by rw [hb1.cell (by simp)]; go_simp
  have c1 : w1.cell? ⟨w.heap.size + 1 + 1, 1, none⟩ = some (.int .u64 cb) := by rw [hb1.cell (by simp)]; go_simp
  have hz1 : w.heap.size + 3 ≤ w1.heap.size := by have := hb1.size; simp at this; omega
  have hbw1 : Below w.heap.size w w1 := hbw.trans (hb1.mono (by simp; omega))
  have s1 := h1.below (hbw1.mono hB)
  have s2 := h2.below (hbw1.mono hB)
  have mm := (hbw1.cell (p := ⟨0, 0, none⟩) (by simpa using h0)).trans hm
  have hK : Hid (∀ W, Below w1.heap.size w1 W → W.cell? ⟨w.heap.size, 0, none⟩ = some (.slice A n c) ∧ W.cell? ⟨w.heap.size, 1, none⟩ = some (.slice A' n' c') ∧ W.cell? ⟨w.heap.size + 1, 0, none⟩ = some (.int .i64 la) ∧ W.cell? ⟨w.heap.size + 1, 1, none⟩ = some (.int .u64 ca) ∧ W.cell? ⟨w.heap.size + 1 + 1, 0, none⟩ = some (.int .i64 lb) ∧ W.cell? ⟨w.heap.size + 1 + 1, 1, none⟩ = some (.int .u64 cb) ∧ Strs W B A n c ss ∧ Strs W B A' n' c' ss' ∧ W.cell? ⟨0, 0, none⟩ = some (.int .i64 m) ∧ Below w.heap.size w W) := Lib.hid fun W hb =>
    ⟨(hb.cell (p := ⟨w.heap.size, 0, none⟩) (by simp; omega)).trans a0, (hb.cell (p := ⟨w.heap.size, 1, none⟩) (by simp; omega)).trans a1, (hb.cell (p := ⟨w.heap.size + 1, 0, none⟩) (by simp; omega)).trans b0, (hb.cell (p := ⟨w.heap.size + 1, 1, none⟩) (by simp; omega)).trans b1,
      (hb.cell (p := ⟨w.heap.size + 1 + 1, 0, none⟩) (by simp; omega)).trans c0, (hb.cell (p := ⟨w.heap.size + 1 + 1, 1, none⟩) (by simp; omega)).trans c1, s1.below (hb.mono (by omega)), s2.below (hb.mono (by omega)), (hb.cell (p := ⟨0, 0, none⟩) (by simp; omega)).trans mm, hbw1.trans (hb.mono (by omega))⟩
  have Hsz := Lib.hid hsz
  have Hl1 := Lib.hid hl1
  have Hl2 := Lib.hid hl2
  clear hb1 hbw hm hm1 haw h1 h2 hbw1 mm hsz hl1 hl2
  go_wp2_with fail
  refine (few_any B n c n' c' A A' ss ss' w1 (by omega) s1 s2 Hsz.out).mono ?_
  rintro e w2 ⟨⟨b, rfl⟩, hb2⟩
  clear a0 a1 b0 b1 c0 c1 s1 s2
  obtain ⟨a0, a1, b0, b1, c0, c1, s1, s2, mm, hw2⟩ := hK.out _ hb2
  have hz2 := hb2.size
  cases b
  · go_wp2
    go_ret
    exact ⟨rfl, hw2⟩
  by_cases h3 : s.size ≤ 3000
  case neg =>
    go_wp2
    go_ret
    exact ⟨rfl, hw2⟩
  obtain ⟨L, k, z, hpv⟩ := parse_vals (parseB ss ss' s.data.toList)
  obtain ⟨⟨t, pc⟩, hpr⟩ : ∃ q, printB ss ss' la ca = q := ⟨_, rfl⟩
  have Hpv := Lib.hid hpv
  have Hpr := Lib.hid hpr
  clear hpv hpr
  go_wp2_with fail
  refine (print_any B n c n' c' A A' ss ss' la ca w2 (by omega) s1 s2 Hsz.out).mono ?_
  rintro e w3 ⟨rfl, hb3⟩
  rw [Hpr.out]
  have hb3' := hb2.trans (hb3.mono hb2.size)
  have hz3 := hb3'.size
  clear a0 a1 b0 b1 c0 c1 s1 s2 mm hw2
  obtain ⟨a0, a1, b0, b1, c0, c1, s1, s2, mm, hw3⟩ := hK.out _ hb3'
  go_wp2_with fail
  refine (rprint_any B n c n' c' A A' ss ss' la ca w3 (by omega) s1 s2 Hsz.out hc1).mono ?_
  rintro e w4 ⟨rfl, hb4⟩
  rw [Hpr.out]
  have hb4' := hb3'.trans (hb4.mono hb3'.size)
  have hz4 := hb4'.size
  clear a0 a1 b0 b1 c0 c1 s1 s2 mm hw3
  obtain ⟨a0, a1, b0, b1, c0, c1, s1, s2, mm, hw4⟩ := hK.out _ hb4'
  go_wp2_with fail
  refine (parse_any B n c n' c' A A' ss ss' s m w4 (by omega) s1 s2 Hsz.out (by omega) mm).mono ?_
  rintro e w5 ⟨rfl, hb5⟩
  rw [Hpv.out]
  have hb5' := hb4'.trans (hb5.mono hb4'.size)
  have hz5 := hb5'.size
  have hb6' : Below w1.heap.size w1 (w5.alloc (.cells #[.int .i64 L, .int .u64 k] 27)) := hb5'.alloc hz5 _
  have k0 : (w5.alloc (.cells #[.int .i64 L, .int .u64 k] 27)).cell? ⟨w5.heap.size, 0, none⟩ = some (.int .i64 L) := by go_simp
  have k1 : (w5.alloc (.cells #[.int .i64 L, .int .u64 k] 27)).cell? ⟨w5.heap.size, 1, none⟩ = some (.int .u64 k) := by go_simp
  have hz6 : (w5.alloc (.cells #[.int .i64 L, .int .u64 k] 27)).heap.size = w5.heap.size + 1 := by simp
  clear a0 a1 b0 b1 c0 c1 s1 s2 mm hw4
  obtain ⟨a0, a1, b0, b1, c0, c1, s1, s2, mm, hw6⟩ := hK.out _ hb6'
  go_wp2_with fail
  refine (rparse_any B n c n' c' A A' ss ss' s _ (by omega) s1 s2 Hsz.out).mono ?_
  rintro e w7 ⟨rfl, hb7⟩
  rw [Hpv.out]
  have k2 := (hb7.cell (p := ⟨w5.heap.size, 0, none⟩) (by simp)).trans k0
  have k3 := (hb7.cell (p := ⟨w5.heap.size, 1, none⟩) (by simp)).trans k1
  have y7 : w5.heap.size < w7.heap.size := by have := hb7.size; omega
  have hb7' := hb6'.trans (hb7.mono hb6'.size)
  have hz7 := hb7'.size
  have hb8' : Below w1.heap.size w1 (w7.alloc (.cells #[.int .i64 L, .int .u64 k] 27)) := hb7'.alloc hz7 _
  have k4 : (w7.alloc (.cells #[.int .i64 L, .int .u64 k] 27)).cell? ⟨w5.heap.size, 0, none⟩ = some (.int .i64 L) := by go_simp
  have k5 : (w7.alloc (.cells #[.int .i64 L, .int .u64 k] 27)).cell? ⟨w5.heap.size, 1, none⟩ = some (.int .u64 k) := by go_simp
  have l4 : (w7.alloc (.cells #[.int .i64 L, .int .u64 k] 27)).cell? ⟨w7.heap.size, 0, none⟩ = some (.int .i64 L) := by go_simp
  have l5 : (w7.alloc (.cells #[.int .i64 L, .int .u64 k] 27)).cell? ⟨w7.heap.size, 1, none⟩ = some (.int .u64 k) := by go_simp
  have hz8 : (w7.alloc (.cells #[.int .i64 L, .int .u64 k] 27)).heap.size = w7.heap.size + 1 := by simp
  clear a0 a1 b0 b1 c0 c1 s1 s2 mm hw6 k0 k1 k2 k3
  obtain ⟨a0, a1, b0, b1, c0, c1, s1, s2, mm, hw8⟩ := hK.out _ hb8'
  go_wp2_with fail
  (try simp only [List.append])
  clear hK
  revert hb8' k4 k5 l4 l5 hz8 a0 a1 b0 b1 c0 c1 s1 s2 mm hw8
  generalize (w7.alloc (.cells #[.int .i64 L, .int .u64 k] 27)) = v
  intro hb8' k4 k5 l4 l5 hz8 a0 a1 b0 b1 c0 c1 s1 s2 mm hw8
  have hvz := hb8'.size
  have hK2 : Hid (∀ W, Below v.heap.size v W → (fun W => W.cell? ⟨w.heap.size, 0, none⟩ = some (.slice A n c) ∧ W.cell? ⟨w.heap.size, 1, none⟩ = some (.slice A' n' c') ∧ W.cell? ⟨w.heap.size + 1, 0, none⟩ = some (.int .i64 la) ∧ W.cell? ⟨w.heap.size + 1, 1, none⟩ = some (.int .u64 ca) ∧ W.cell? ⟨w.heap.size + 1 + 1, 0, none⟩ = some (.int .i64 lb) ∧ W.cell? ⟨w.heap.size + 1 + 1, 1, none⟩ = some (.int .u64 cb) ∧ W.cell? ⟨w5.heap.size, 0, none⟩ = some (.int .i64 L) ∧ W.cell? ⟨w5.heap.size, 1, none⟩ = some (.int .u64 k) ∧ W.cell? ⟨w7.heap.size, 0, none⟩ = some (.int .i64 L) ∧ W.cell? ⟨w7.heap.size, 1, none⟩ = some (.int .u64 k) ∧ Below v.heap.size v W) W) := Lib.hid fun W hb =>
    ⟨(hb.cell (p := ⟨w.heap.size, 0, none⟩) (by simp; omega)).trans a0, (hb.cell (p := ⟨w.heap.size, 1, none⟩) (by simp; omega)).trans a1, (hb.cell (p := ⟨w.heap.size + 1, 0, none⟩) (by simp; omega)).trans b0, (hb.cell (p := ⟨w.heap.size + 1, 1, none⟩) (by simp; omega)).trans b1,
      (hb.cell (p := ⟨w.heap.size + 1 + 1, 0, none⟩) (by simp; omega)).trans c0, (hb.cell (p := ⟨w.heap.size + 1 + 1, 1, none⟩) (by simp; omega)).trans c1, (hb.cell (p := ⟨w5.heap.size, 0, none⟩) (by simp; omega)).trans k4, (hb.cell (p := ⟨w5.heap.size, 1, none⟩) (by simp; omega)).trans k5,
      (hb.cell (p := ⟨w7.heap.size, 0, none⟩) (by simp; omega)).trans l4, (hb.cell (p := ⟨w7.heap.size, 1, none⟩) (by simp; omega)).trans l5, hb⟩
  have hRi : Hid (∀ (W : World), (fun W => W.cell? ⟨w.heap.size, 0, none⟩ = some (.slice A n c) ∧ W.cell? ⟨w.heap.size, 1, none⟩ = some (.slice A' n' c') ∧ W.cell? ⟨w.heap.size + 1, 0, none⟩ = some (.int .i64 la) ∧ W.cell? ⟨w.heap.size + 1, 1, none⟩ = some (.int .u64 ca) ∧ W.cell? ⟨w.heap.size + 1 + 1, 0, none⟩ = some (.int .i64 lb) ∧ W.cell? ⟨w.heap.size + 1 + 1, 1, none⟩ = some (.int .u64 cb) ∧ W.cell? ⟨w5.heap.size, 0, none⟩ = some (.int .i64 L) ∧ W.cell? ⟨w5.heap.size, 1, none⟩ = some (.int .u64 k) ∧ W.cell? ⟨w7.heap.size, 0, none⟩ = some (.int .i64 L) ∧ W.cell? ⟨w7.heap.size, 1, none⟩ = some (.int .u64 k) ∧ Below v.heap.size v W) W → Calls Tryd.prog 16 #[.agg #[.slice A n c, .slice A' n' c']] W fun e V => e = .returned (.bool (rightB ss ss')) ∧ (fun W => W.cell? ⟨w.heap.size, 0, none⟩ = some (.slice A n c) ∧ W.cell? ⟨w.heap.size, 1, none⟩ = some (.slice A' n' c') ∧ W.cell? ⟨w.heap.size + 1, 0, none⟩ = some (.int .i64 la) ∧ W.cell? ⟨w.heap.size + 1, 1, none⟩ = some (.int .u64 ca) ∧ W.cell? ⟨w.heap.size + 1 + 1, 0, none⟩ = some (.int .i64 lb) ∧ W.cell? ⟨w.heap.size + 1 + 1, 1, none⟩ = some (.int .u64 cb) ∧ W.cell? ⟨w5.heap.size, 0, none⟩ = some (.int .i64 L) ∧ W.cell? ⟨w5.heap.size, 1, none⟩ = some (.int .u64 k) ∧ W.cell? ⟨w7.heap.size, 0, none⟩ = some (.int .i64 L) ∧ W.cell? ⟨w7.heap.size, 1, none⟩ = some (.int .u64 k) ∧ Below v.heap.size v W) V) := Lib.hid fun W hW =>
    (right_any B n c n' c' A A' ss ss' W (by have := hW.2.2.2.2.2.2.2.2.2.2.size; omega) (s1.below (hW.2.2.2.2.2.2.2.2.2.2.mono (by omega))) (s2.below (hW.2.2.2.2.2.2.2.2.2.2.mono (by omega))) Hsz.out).mono fun e V ⟨he, hb⟩ => ⟨he, hK2.out _ (hW.2.2.2.2.2.2.2.2.2.2.trans (hb.mono hW.2.2.2.2.2.2.2.2.2.2.size))⟩
  have hRr : Hid (∀ (W : World), (fun W => W.cell? ⟨w.heap.size, 0, none⟩ = some (.slice A n c) ∧ W.cell? ⟨w.heap.size, 1, none⟩ = some (.slice A' n' c') ∧ W.cell? ⟨w.heap.size + 1, 0, none⟩ = some (.int .i64 la) ∧ W.cell? ⟨w.heap.size + 1, 1, none⟩ = some (.int .u64 ca) ∧ W.cell? ⟨w.heap.size + 1 + 1, 0, none⟩ = some (.int .i64 lb) ∧ W.cell? ⟨w.heap.size + 1 + 1, 1, none⟩ = some (.int .u64 cb) ∧ W.cell? ⟨w5.heap.size, 0, none⟩ = some (.int .i64 L) ∧ W.cell? ⟨w5.heap.size, 1, none⟩ = some (.int .u64 k) ∧ W.cell? ⟨w7.heap.size, 0, none⟩ = some (.int .i64 L) ∧ W.cell? ⟨w7.heap.size, 1, none⟩ = some (.int .u64 k) ∧ Below v.heap.size v W) W → Calls Tryd.prog 17 #[.agg #[.slice A n c, .slice A' n' c']] W fun e V => e = .returned (.bool (rightB ss ss')) ∧ (fun W => W.cell? ⟨w.heap.size, 0, none⟩ = some (.slice A n c) ∧ W.cell? ⟨w.heap.size, 1, none⟩ = some (.slice A' n' c') ∧ W.cell? ⟨w.heap.size + 1, 0, none⟩ = some (.int .i64 la) ∧ W.cell? ⟨w.heap.size + 1, 1, none⟩ = some (.int .u64 ca) ∧ W.cell? ⟨w.heap.size + 1 + 1, 0, none⟩ = some (.int .i64 lb) ∧ W.cell? ⟨w.heap.size + 1 + 1, 1, none⟩ = some (.int .u64 cb) ∧ W.cell? ⟨w5.heap.size, 0, none⟩ = some (.int .i64 L) ∧ W.cell? ⟨w5.heap.size, 1, none⟩ = some (.int .u64 k) ∧ W.cell? ⟨w7.heap.size, 0, none⟩ = some (.int .i64 L) ∧ W.cell? ⟨w7.heap.size, 1, none⟩ = some (.int .u64 k) ∧ Below v.heap.size v W) V) := Lib.hid fun W hW =>
    (rright_any B n c n' c' A A' ss ss' W (by have := hW.2.2.2.2.2.2.2.2.2.2.size; omega) (s1.below (hW.2.2.2.2.2.2.2.2.2.2.mono (by omega))) (s2.below (hW.2.2.2.2.2.2.2.2.2.2.mono (by omega))) Hsz.out).mono fun e V ⟨he, hb⟩ => ⟨he, hK2.out _ (hW.2.2.2.2.2.2.2.2.2.2.trans (hb.mono hW.2.2.2.2.2.2.2.2.2.2.size))⟩
  have hIn : Hid (∀ (W : World), (fun W => W.cell? ⟨w.heap.size, 0, none⟩ = some (.slice A n c) ∧ W.cell? ⟨w.heap.size, 1, none⟩ = some (.slice A' n' c') ∧ W.cell? ⟨w.heap.size + 1, 0, none⟩ = some (.int .i64 la) ∧ W.cell? ⟨w.heap.size + 1, 1, none⟩ = some (.int .u64 ca) ∧ W.cell? ⟨w.heap.size + 1 + 1, 0, none⟩ = some (.int .i64 lb) ∧ W.cell? ⟨w.heap.size + 1 + 1, 1, none⟩ = some (.int .u64 cb) ∧ W.cell? ⟨w5.heap.size, 0, none⟩ = some (.int .i64 L) ∧ W.cell? ⟨w5.heap.size, 1, none⟩ = some (.int .u64 k) ∧ W.cell? ⟨w7.heap.size, 0, none⟩ = some (.int .i64 L) ∧ W.cell? ⟨w7.heap.size, 1, none⟩ = some (.int .u64 k) ∧ Below v.heap.size v W) W → Calls Tryd.prog 18 #[.agg #[.slice A n c, .slice A' n' c'], .agg #[.int .i64 la, .int .u64 ca]] W fun e V => e = .returned (.bool (rightB ss ss' && hasB n n' la ca)) ∧ (fun W => W.cell? ⟨w.heap.size, 0, none⟩ = some (.slice A n c) ∧ W.cell? ⟨w.heap.size, 1, none⟩ = some (.slice A' n' c') ∧ W.cell? ⟨w.heap.size + 1, 0, none⟩ = some (.int .i64 la) ∧ W.cell? ⟨w.heap.size + 1, 1, none⟩ = some (.int .u64 ca) ∧ W.cell? ⟨w.heap.size + 1 + 1, 0, none⟩ = some (.int .i64 lb) ∧ W.cell? ⟨w.heap.size + 1 + 1, 1, none⟩ = some (.int .u64 cb) ∧ W.cell? ⟨w5.heap.size, 0, none⟩ = some (.int .i64 L) ∧ W.cell? ⟨w5.heap.size, 1, none⟩ = some (.int .u64 k) ∧ W.cell? ⟨w7.heap.size, 0, none⟩ = some (.int .i64 L) ∧ W.cell? ⟨w7.heap.size, 1, none⟩ = some (.int .u64 k) ∧ Below v.heap.size v W) V) := Lib.hid fun W hW =>
    (in_any B n c n' c' A A' ss ss' la ca W (by have := hW.2.2.2.2.2.2.2.2.2.2.size; omega) (s1.below (hW.2.2.2.2.2.2.2.2.2.2.mono (by omega))) (s2.below (hW.2.2.2.2.2.2.2.2.2.2.mono (by omega))) Hsz.out).mono fun e V ⟨he, hb⟩ => ⟨he, hK2.out _ (hW.2.2.2.2.2.2.2.2.2.2.trans (hb.mono hW.2.2.2.2.2.2.2.2.2.2.size))⟩
  have hIr : Hid (∀ (W : World), (fun W => W.cell? ⟨w.heap.size, 0, none⟩ = some (.slice A n c) ∧ W.cell? ⟨w.heap.size, 1, none⟩ = some (.slice A' n' c') ∧ W.cell? ⟨w.heap.size + 1, 0, none⟩ = some (.int .i64 la) ∧ W.cell? ⟨w.heap.size + 1, 1, none⟩ = some (.int .u64 ca) ∧ W.cell? ⟨w.heap.size + 1 + 1, 0, none⟩ = some (.int .i64 lb) ∧ W.cell? ⟨w.heap.size + 1 + 1, 1, none⟩ = some (.int .u64 cb) ∧ W.cell? ⟨w5.heap.size, 0, none⟩ = some (.int .i64 L) ∧ W.cell? ⟨w5.heap.size, 1, none⟩ = some (.int .u64 k) ∧ W.cell? ⟨w7.heap.size, 0, none⟩ = some (.int .i64 L) ∧ W.cell? ⟨w7.heap.size, 1, none⟩ = some (.int .u64 k) ∧ Below v.heap.size v W) W → Calls Tryd.prog 19 #[.agg #[.slice A n c, .slice A' n' c'], .agg #[.int .i64 la, .int .u64 ca]] W fun e V => e = .returned (.bool (rightB ss ss' && hasB n n' la ca)) ∧ (fun W => W.cell? ⟨w.heap.size, 0, none⟩ = some (.slice A n c) ∧ W.cell? ⟨w.heap.size, 1, none⟩ = some (.slice A' n' c') ∧ W.cell? ⟨w.heap.size + 1, 0, none⟩ = some (.int .i64 la) ∧ W.cell? ⟨w.heap.size + 1, 1, none⟩ = some (.int .u64 ca) ∧ W.cell? ⟨w.heap.size + 1 + 1, 0, none⟩ = some (.int .i64 lb) ∧ W.cell? ⟨w.heap.size + 1 + 1, 1, none⟩ = some (.int .u64 cb) ∧ W.cell? ⟨w5.heap.size, 0, none⟩ = some (.int .i64 L) ∧ W.cell? ⟨w5.heap.size, 1, none⟩ = some (.int .u64 k) ∧ W.cell? ⟨w7.heap.size, 0, none⟩ = some (.int .i64 L) ∧ W.cell? ⟨w7.heap.size, 1, none⟩ = some (.int .u64 k) ∧ Below v.heap.size v W) V) := Lib.hid fun W hW =>
    (rin_any B n c n' c' A A' ss ss' la ca W (by have := hW.2.2.2.2.2.2.2.2.2.2.size; omega) (s1.below (hW.2.2.2.2.2.2.2.2.2.2.mono (by omega))) (s2.below (hW.2.2.2.2.2.2.2.2.2.2.mono (by omega))) Hsz.out hc1).mono fun e V ⟨he, hb⟩ => ⟨he, hK2.out _ (hW.2.2.2.2.2.2.2.2.2.2.trans (hb.mono hW.2.2.2.2.2.2.2.2.2.2.size))⟩
  have hDo : Hid (∀ (W : World), (fun W => W.cell? ⟨w.heap.size, 0, none⟩ = some (.slice A n c) ∧ W.cell? ⟨w.heap.size, 1, none⟩ = some (.slice A' n' c') ∧ W.cell? ⟨w.heap.size + 1, 0, none⟩ = some (.int .i64 la) ∧ W.cell? ⟨w.heap.size + 1, 1, none⟩ = some (.int .u64 ca) ∧ W.cell? ⟨w.heap.size + 1 + 1, 0, none⟩ = some (.int .i64 lb) ∧ W.cell? ⟨w.heap.size + 1 + 1, 1, none⟩ = some (.int .u64 cb) ∧ W.cell? ⟨w5.heap.size, 0, none⟩ = some (.int .i64 L) ∧ W.cell? ⟨w5.heap.size, 1, none⟩ = some (.int .u64 k) ∧ W.cell? ⟨w7.heap.size, 0, none⟩ = some (.int .i64 L) ∧ W.cell? ⟨w7.heap.size, 1, none⟩ = some (.int .u64 k) ∧ Below v.heap.size v W) W → Calls Tryd.prog 20 #[.agg #[.int .i64 la, .int .u64 ca], .agg #[.int .i64 lb, .int .u64 cb]] W fun e V => e = .returned (.bool (domB la ca lb cb)) ∧ (fun W => W.cell? ⟨w.heap.size, 0, none⟩ = some (.slice A n c) ∧ W.cell? ⟨w.heap.size, 1, none⟩ = some (.slice A' n' c') ∧ W.cell? ⟨w.heap.size + 1, 0, none⟩ = some (.int .i64 la) ∧ W.cell? ⟨w.heap.size + 1, 1, none⟩ = some (.int .u64 ca) ∧ W.cell? ⟨w.heap.size + 1 + 1, 0, none⟩ = some (.int .i64 lb) ∧ W.cell? ⟨w.heap.size + 1 + 1, 1, none⟩ = some (.int .u64 cb) ∧ W.cell? ⟨w5.heap.size, 0, none⟩ = some (.int .i64 L) ∧ W.cell? ⟨w5.heap.size, 1, none⟩ = some (.int .u64 k) ∧ W.cell? ⟨w7.heap.size, 0, none⟩ = some (.int .i64 L) ∧ W.cell? ⟨w7.heap.size, 1, none⟩ = some (.int .u64 k) ∧ Below v.heap.size v W) V) := Lib.hid fun W hW =>
    (dom_any la ca lb cb W).mono fun e V ⟨he, hb⟩ => ⟨he, hK2.out _ (hW.2.2.2.2.2.2.2.2.2.2.trans (hb.mono hW.2.2.2.2.2.2.2.2.2.2.size))⟩
  have hDr2 : Hid (∀ (W : World), (fun W => W.cell? ⟨w.heap.size, 0, none⟩ = some (.slice A n c) ∧ W.cell? ⟨w.heap.size, 1, none⟩ = some (.slice A' n' c') ∧ W.cell? ⟨w.heap.size + 1, 0, none⟩ = some (.int .i64 la) ∧ W.cell? ⟨w.heap.size + 1, 1, none⟩ = some (.int .u64 ca) ∧ W.cell? ⟨w.heap.size + 1 + 1, 0, none⟩ = some (.int .i64 lb) ∧ W.cell? ⟨w.heap.size + 1 + 1, 1, none⟩ = some (.int .u64 cb) ∧ W.cell? ⟨w5.heap.size, 0, none⟩ = some (.int .i64 L) ∧ W.cell? ⟨w5.heap.size, 1, none⟩ = some (.int .u64 k) ∧ W.cell? ⟨w7.heap.size, 0, none⟩ = some (.int .i64 L) ∧ W.cell? ⟨w7.heap.size, 1, none⟩ = some (.int .u64 k) ∧ Below v.heap.size v W) W → Calls Tryd.prog 21 #[.agg #[.int .i64 la, .int .u64 ca], .agg #[.int .i64 lb, .int .u64 cb]] W fun e V => e = .returned (.bool (domB la ca lb cb)) ∧ (fun W => W.cell? ⟨w.heap.size, 0, none⟩ = some (.slice A n c) ∧ W.cell? ⟨w.heap.size, 1, none⟩ = some (.slice A' n' c') ∧ W.cell? ⟨w.heap.size + 1, 0, none⟩ = some (.int .i64 la) ∧ W.cell? ⟨w.heap.size + 1, 1, none⟩ = some (.int .u64 ca) ∧ W.cell? ⟨w.heap.size + 1 + 1, 0, none⟩ = some (.int .i64 lb) ∧ W.cell? ⟨w.heap.size + 1 + 1, 1, none⟩ = some (.int .u64 cb) ∧ W.cell? ⟨w5.heap.size, 0, none⟩ = some (.int .i64 L) ∧ W.cell? ⟨w5.heap.size, 1, none⟩ = some (.int .u64 k) ∧ W.cell? ⟨w7.heap.size, 0, none⟩ = some (.int .i64 L) ∧ W.cell? ⟨w7.heap.size, 1, none⟩ = some (.int .u64 k) ∧ Below v.heap.size v W) V) := Lib.hid fun W hW =>
    (rdom_any la lb ca cb W hc1 hc2).mono fun e V ⟨he, hb⟩ => ⟨he, hK2.out _ (hW.2.2.2.2.2.2.2.2.2.2.trans (hb.mono hW.2.2.2.2.2.2.2.2.2.2.size))⟩
  have hJo : Hid (∀ (W : World), (fun W => W.cell? ⟨w.heap.size, 0, none⟩ = some (.slice A n c) ∧ W.cell? ⟨w.heap.size, 1, none⟩ = some (.slice A' n' c') ∧ W.cell? ⟨w.heap.size + 1, 0, none⟩ = some (.int .i64 la) ∧ W.cell? ⟨w.heap.size + 1, 1, none⟩ = some (.int .u64 ca) ∧ W.cell? ⟨w.heap.size + 1 + 1, 0, none⟩ = some (.int .i64 lb) ∧ W.cell? ⟨w.heap.size + 1 + 1, 1, none⟩ = some (.int .u64 cb) ∧ W.cell? ⟨w5.heap.size, 0, none⟩ = some (.int .i64 L) ∧ W.cell? ⟨w5.heap.size, 1, none⟩ = some (.int .u64 k) ∧ W.cell? ⟨w7.heap.size, 0, none⟩ = some (.int .i64 L) ∧ W.cell? ⟨w7.heap.size, 1, none⟩ = some (.int .u64 k) ∧ Below v.heap.size v W) W → Calls Tryd.prog 22 #[.agg #[.int .i64 la, .int .u64 ca], .agg #[.int .i64 lb, .int .u64 cb]] W fun e V => e = .returned (.agg #[.int .i64 (maxI la lb), .int .u64 (bits .or .u64 ca cb)]) ∧ (fun W => W.cell? ⟨w.heap.size, 0, none⟩ = some (.slice A n c) ∧ W.cell? ⟨w.heap.size, 1, none⟩ = some (.slice A' n' c') ∧ W.cell? ⟨w.heap.size + 1, 0, none⟩ = some (.int .i64 la) ∧ W.cell? ⟨w.heap.size + 1, 1, none⟩ = some (.int .u64 ca) ∧ W.cell? ⟨w.heap.size + 1 + 1, 0, none⟩ = some (.int .i64 lb) ∧ W.cell? ⟨w.heap.size + 1 + 1, 1, none⟩ = some (.int .u64 cb) ∧ W.cell? ⟨w5.heap.size, 0, none⟩ = some (.int .i64 L) ∧ W.cell? ⟨w5.heap.size, 1, none⟩ = some (.int .u64 k) ∧ W.cell? ⟨w7.heap.size, 0, none⟩ = some (.int .i64 L) ∧ W.cell? ⟨w7.heap.size, 1, none⟩ = some (.int .u64 k) ∧ Below v.heap.size v W) V) := Lib.hid fun W hW =>
    (join_any la ca lb cb W).mono fun e V ⟨he, hb⟩ => ⟨he, hK2.out _ (hW.2.2.2.2.2.2.2.2.2.2.trans (hb.mono hW.2.2.2.2.2.2.2.2.2.2.size))⟩
  have hJr : Hid (∀ (W : World), (fun W => W.cell? ⟨w.heap.size, 0, none⟩ = some (.slice A n c) ∧ W.cell? ⟨w.heap.size, 1, none⟩ = some (.slice A' n' c') ∧ W.cell? ⟨w.heap.size + 1, 0, none⟩ = some (.int .i64 la) ∧ W.cell? ⟨w.heap.size + 1, 1, none⟩ = some (.int .u64 ca) ∧ W.cell? ⟨w.heap.size + 1 + 1, 0, none⟩ = some (.int .i64 lb) ∧ W.cell? ⟨w.heap.size + 1 + 1, 1, none⟩ = some (.int .u64 cb) ∧ W.cell? ⟨w5.heap.size, 0, none⟩ = some (.int .i64 L) ∧ W.cell? ⟨w5.heap.size, 1, none⟩ = some (.int .u64 k) ∧ W.cell? ⟨w7.heap.size, 0, none⟩ = some (.int .i64 L) ∧ W.cell? ⟨w7.heap.size, 1, none⟩ = some (.int .u64 k) ∧ Below v.heap.size v W) W → Calls Tryd.prog 23 #[.agg #[.int .i64 la, .int .u64 ca], .agg #[.int .i64 lb, .int .u64 cb]] W fun e V => e = .returned (.agg #[.int .i64 (maxI la lb), .int .u64 (bits .or .u64 ca cb)]) ∧ (fun W => W.cell? ⟨w.heap.size, 0, none⟩ = some (.slice A n c) ∧ W.cell? ⟨w.heap.size, 1, none⟩ = some (.slice A' n' c') ∧ W.cell? ⟨w.heap.size + 1, 0, none⟩ = some (.int .i64 la) ∧ W.cell? ⟨w.heap.size + 1, 1, none⟩ = some (.int .u64 ca) ∧ W.cell? ⟨w.heap.size + 1 + 1, 0, none⟩ = some (.int .i64 lb) ∧ W.cell? ⟨w.heap.size + 1 + 1, 1, none⟩ = some (.int .u64 cb) ∧ W.cell? ⟨w5.heap.size, 0, none⟩ = some (.int .i64 L) ∧ W.cell? ⟨w5.heap.size, 1, none⟩ = some (.int .u64 k) ∧ W.cell? ⟨w7.heap.size, 0, none⟩ = some (.int .i64 L) ∧ W.cell? ⟨w7.heap.size, 1, none⟩ = some (.int .u64 k) ∧ Below v.heap.size v W) V) := Lib.hid fun W hW =>
    (rjoin_any la lb ca cb W hc1 hc2).mono fun e V ⟨he, hb⟩ => ⟨he, hK2.out _ (hW.2.2.2.2.2.2.2.2.2.2.trans (hb.mono hW.2.2.2.2.2.2.2.2.2.2.size))⟩
  have hMe : Hid (∀ (W : World), (fun W => W.cell? ⟨w.heap.size, 0, none⟩ = some (.slice A n c) ∧ W.cell? ⟨w.heap.size, 1, none⟩ = some (.slice A' n' c') ∧ W.cell? ⟨w.heap.size + 1, 0, none⟩ = some (.int .i64 la) ∧ W.cell? ⟨w.heap.size + 1, 1, none⟩ = some (.int .u64 ca) ∧ W.cell? ⟨w.heap.size + 1 + 1, 0, none⟩ = some (.int .i64 lb) ∧ W.cell? ⟨w.heap.size + 1 + 1, 1, none⟩ = some (.int .u64 cb) ∧ W.cell? ⟨w5.heap.size, 0, none⟩ = some (.int .i64 L) ∧ W.cell? ⟨w5.heap.size, 1, none⟩ = some (.int .u64 k) ∧ W.cell? ⟨w7.heap.size, 0, none⟩ = some (.int .i64 L) ∧ W.cell? ⟨w7.heap.size, 1, none⟩ = some (.int .u64 k) ∧ Below v.heap.size v W) W → Calls Tryd.prog 24 #[.agg #[.int .i64 la, .int .u64 ca], .agg #[.int .i64 lb, .int .u64 cb]] W fun e V => e = .returned (.agg #[.int .i64 (minI la lb), .int .u64 (bits .and .u64 ca cb)]) ∧ (fun W => W.cell? ⟨w.heap.size, 0, none⟩ = some (.slice A n c) ∧ W.cell? ⟨w.heap.size, 1, none⟩ = some (.slice A' n' c') ∧ W.cell? ⟨w.heap.size + 1, 0, none⟩ = some (.int .i64 la) ∧ W.cell? ⟨w.heap.size + 1, 1, none⟩ = some (.int .u64 ca) ∧ W.cell? ⟨w.heap.size + 1 + 1, 0, none⟩ = some (.int .i64 lb) ∧ W.cell? ⟨w.heap.size + 1 + 1, 1, none⟩ = some (.int .u64 cb) ∧ W.cell? ⟨w5.heap.size, 0, none⟩ = some (.int .i64 L) ∧ W.cell? ⟨w5.heap.size, 1, none⟩ = some (.int .u64 k) ∧ W.cell? ⟨w7.heap.size, 0, none⟩ = some (.int .i64 L) ∧ W.cell? ⟨w7.heap.size, 1, none⟩ = some (.int .u64 k) ∧ Below v.heap.size v W) V) := Lib.hid fun W hW =>
    (meet_any la ca lb cb W).mono fun e V ⟨he, hb⟩ => ⟨he, hK2.out _ (hW.2.2.2.2.2.2.2.2.2.2.trans (hb.mono hW.2.2.2.2.2.2.2.2.2.2.size))⟩
  have hMr : Hid (∀ (W : World), (fun W => W.cell? ⟨w.heap.size, 0, none⟩ = some (.slice A n c) ∧ W.cell? ⟨w.heap.size, 1, none⟩ = some (.slice A' n' c') ∧ W.cell? ⟨w.heap.size + 1, 0, none⟩ = some (.int .i64 la) ∧ W.cell? ⟨w.heap.size + 1, 1, none⟩ = some (.int .u64 ca) ∧ W.cell? ⟨w.heap.size + 1 + 1, 0, none⟩ = some (.int .i64 lb) ∧ W.cell? ⟨w.heap.size + 1 + 1, 1, none⟩ = some (.int .u64 cb) ∧ W.cell? ⟨w5.heap.size, 0, none⟩ = some (.int .i64 L) ∧ W.cell? ⟨w5.heap.size, 1, none⟩ = some (.int .u64 k) ∧ W.cell? ⟨w7.heap.size, 0, none⟩ = some (.int .i64 L) ∧ W.cell? ⟨w7.heap.size, 1, none⟩ = some (.int .u64 k) ∧ Below v.heap.size v W) W → Calls Tryd.prog 25 #[.agg #[.int .i64 la, .int .u64 ca], .agg #[.int .i64 lb, .int .u64 cb]] W fun e V => e = .returned (.agg #[.int .i64 (minI la lb), .int .u64 (bits .and .u64 ca cb)]) ∧ (fun W => W.cell? ⟨w.heap.size, 0, none⟩ = some (.slice A n c) ∧ W.cell? ⟨w.heap.size, 1, none⟩ = some (.slice A' n' c') ∧ W.cell? ⟨w.heap.size + 1, 0, none⟩ = some (.int .i64 la) ∧ W.cell? ⟨w.heap.size + 1, 1, none⟩ = some (.int .u64 ca) ∧ W.cell? ⟨w.heap.size + 1 + 1, 0, none⟩ = some (.int .i64 lb) ∧ W.cell? ⟨w.heap.size + 1 + 1, 1, none⟩ = some (.int .u64 cb) ∧ W.cell? ⟨w5.heap.size, 0, none⟩ = some (.int .i64 L) ∧ W.cell? ⟨w5.heap.size, 1, none⟩ = some (.int .u64 k) ∧ W.cell? ⟨w7.heap.size, 0, none⟩ = some (.int .i64 L) ∧ W.cell? ⟨w7.heap.size, 1, none⟩ = some (.int .u64 k) ∧ Below v.heap.size v W) V) := Lib.hid fun W hW =>
    (rmeet_any la lb ca cb W hc1 hc2).mono fun e V ⟨he, hb⟩ => ⟨he, hK2.out _ (hW.2.2.2.2.2.2.2.2.2.2.trans (hb.mono hW.2.2.2.2.2.2.2.2.2.2.size))⟩
  have hDw : Hid (∀ W, (fun W => W.cell? ⟨w.heap.size, 0, none⟩ = some (.slice A n c) ∧ W.cell? ⟨w.heap.size, 1, none⟩ = some (.slice A' n' c') ∧ W.cell? ⟨w.heap.size + 1, 0, none⟩ = some (.int .i64 la) ∧ W.cell? ⟨w.heap.size + 1, 1, none⟩ = some (.int .u64 ca) ∧ W.cell? ⟨w.heap.size + 1 + 1, 0, none⟩ = some (.int .i64 lb) ∧ W.cell? ⟨w.heap.size + 1 + 1, 1, none⟩ = some (.int .u64 cb) ∧ W.cell? ⟨w5.heap.size, 0, none⟩ = some (.int .i64 L) ∧ W.cell? ⟨w5.heap.size, 1, none⟩ = some (.int .u64 k) ∧ W.cell? ⟨w7.heap.size, 0, none⟩ = some (.int .i64 L) ∧ W.cell? ⟨w7.heap.size, 1, none⟩ = some (.int .u64 k) ∧ Below v.heap.size v W) W → (fun W => W.cell? ⟨w.heap.size, 0, none⟩ = some (.slice A n c) ∧ W.cell? ⟨w.heap.size, 1, none⟩ = some (.slice A' n' c') ∧ W.cell? ⟨w.heap.size + 1, 0, none⟩ = some (.int .i64 la) ∧ W.cell? ⟨w.heap.size + 1, 1, none⟩ = some (.int .u64 ca) ∧ W.cell? ⟨w.heap.size + 1 + 1, 0, none⟩ = some (.int .i64 lb) ∧ W.cell? ⟨w.heap.size + 1 + 1, 1, none⟩ = some (.int .u64 cb) ∧ W.cell? ⟨w5.heap.size, 0, none⟩ = some (.int .i64 L) ∧ W.cell? ⟨w5.heap.size, 1, none⟩ = some (.int .u64 k) ∧ W.cell? ⟨w7.heap.size, 0, none⟩ = some (.int .i64 L) ∧ W.cell? ⟨w7.heap.size, 1, none⟩ = some (.int .u64 k) ∧ Below v.heap.size v W) W.drew) := Lib.hid fun W hW => hK2.out _ hW.2.2.2.2.2.2.2.2.2.2.drew
  have hS1 := hK2.out _ (Below.refl _ v)
  have hql : ∀ l k W, (Op.equalIn 10000 27 (.agg #[.int .i64 l, .int .u64 k]) (.agg #[.int .i64 l, .int .u64 k])).run Tryd.prog W = .ok true W := fun l k W => by rw [eql_label, decide_eq_true ⟨rfl, rfl⟩]
  clear a0 a1 b0 b1 c0 c1 k4 k5 l4 l5 mm
  go_region_held3 (fun W => W.cell? ⟨w.heap.size, 0, none⟩ = some (.slice A n c) ∧ W.cell? ⟨w.heap.size, 1, none⟩ = some (.slice A' n' c') ∧ W.cell? ⟨w.heap.size + 1, 0, none⟩ = some (.int .i64 la) ∧ W.cell? ⟨w.heap.size + 1, 1, none⟩ = some (.int .u64 ca) ∧ W.cell? ⟨w.heap.size + 1 + 1, 0, none⟩ = some (.int .i64 lb) ∧ W.cell? ⟨w.heap.size + 1 + 1, 1, none⟩ = some (.int .u64 cb) ∧ W.cell? ⟨w5.heap.size, 0, none⟩ = some (.int .i64 L) ∧ W.cell? ⟨w5.heap.size, 1, none⟩ = some (.int .u64 k) ∧ W.cell? ⟨w7.heap.size, 0, none⟩ = some (.int .i64 L) ∧ W.cell? ⟨w7.heap.size, 1, none⟩ = some (.int .u64 k) ∧ Below v.heap.size v W)
    (first | assumption | exact hDw.out _ (by assumption) | (trace_state; fail))
    (first
      | (go_at_call 16; refine (hRi.out _ ?_).mono ?_; assumption; rintro e wz ⟨rfl, hSz⟩)
      | (go_at_call 17; refine (hRr.out _ ?_).mono ?_; assumption; rintro e wz ⟨rfl, hSz⟩)
      | (go_at_call 18; refine (hIn.out _ ?_).mono ?_; assumption; rintro e wz ⟨rfl, hSz⟩)
      | (go_at_call 19; refine (hIr.out _ ?_).mono ?_; assumption; rintro e wz ⟨rfl, hSz⟩)
      | (go_at_call 20; refine (hDo.out _ ?_).mono ?_; assumption; rintro e wz ⟨rfl, hSz⟩)
      | (go_at_call 21; refine (hDr2.out _ ?_).mono ?_; assumption; rintro e wz ⟨rfl, hSz⟩)
      | (go_at_call 22; refine (hJo.out _ ?_).mono ?_; assumption; rintro e wz ⟨rfl, hSz⟩)
      | (go_at_call 23; refine (hJr.out _ ?_).mono ?_; assumption; rintro e wz ⟨rfl, hSz⟩)
      | (go_at_call 24; refine (hMe.out _ ?_).mono ?_; assumption; rintro e wz ⟨rfl, hSz⟩)
      | (go_at_call 25; refine (hMr.out _ ?_).mono ?_; assumption; rintro e wz ⟨rfl, hSz⟩))
  all_goals
    rename_i hS
    have hBv := hS.2.2.2.2.2.2.2.2.2.2
    go_wp2
    go_ret
    exact ⟨rfl, hw8.trans (hBv.mono (by omega))⟩

theorem ltells_walk (B n c n' c' : Nat) (A A' : Option Addr) (ss ss' : List ByteArray) (la ca lb cb m : Int) (s : ByteArray) (w : World) (hB : B ≤ w.heap.size) (h1 : Strs w B A n c ss) (h2 : Strs w B A' n' c' ss') (hsz : ∀ s ∈ ss ++ ss', s.size ≤ maxLen)
    (hm : w.cell? ⟨0, 0, none⟩ = some (.int .i64 m)) (hc1 : 0 ≤ ca ∧ ca < 18446744073709551616) (hc2 : 0 ≤ cb ∧ cb < 18446744073709551616) (hs : s.size ≤ maxLen) :
    Calls Tryd.prog 3 #[.agg #[.slice A n c, .slice A' n' c'], .agg #[.int .i64 la, .int .u64 ca], .agg #[.int .i64 lb, .int .u64 cb], .string s] w fun e w' => e = .returned (.bool true) ∧ Below w.heap.size w w' := by
  obtain ⟨a, rfl⟩ := Int.eq_ofNat_of_zero_le hc1.1
  obtain ⟨b, rfl⟩ := Int.eq_ofNat_of_zero_le hc2.1
  exact ltells_nat B n c n' c' A A' ss ss' la lb m a b s w hB h1 h2 hsz hm (by omega) (by omega) hs
end Go.Proofs.YtkjiaklpffnhlaaDoor
