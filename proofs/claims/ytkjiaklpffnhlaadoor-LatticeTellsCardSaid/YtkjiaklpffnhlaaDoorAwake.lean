/-
  awake, the law files' own call: true, and what it makes lies in memory of its own.
-/
import Derived.Test.YtkjiaklpffnhlaaDoorNPrint
import Derived.Test.YtkjiaklpffnhlaaDoorParseL
import Derived.Test.YtkjiaklpffnhlaaDoorDom
namespace Go.Proofs.YtkjiaklpffnhlaaDoor
open Go.RowKit Go.Maps

def lowS : ByteArray := ⟨#[76, 79, 87]⟩
def highS : ByteArray := ⟨#[72, 73, 71, 72]⟩
def aS : ByteArray := ⟨#[65]⟩
def bS : ByteArray := ⟨#[66]⟩
theorem wake_right : rightB [lowS, highS] [aS, bS] = true := by decide +kernel
theorem wake_print1 : printB [lowS, highS] [aS, bS] 1 3 = ([72, 73, 71, 72, 47, 47, 65, 47, 66], 0) := by decide +kernel
theorem wake_print2 : printB [lowS, highS] [aS, bS] 0 0 = ([76, 79, 87], 0) := by decide +kernel
theorem wake_parse1 : parseB [lowS, highS] [aS, bS] [72, 73, 71, 72, 47, 47, 66] = some (1, 2) := by decide +kernel
theorem wake_parse2 : parseB [lowS, highS] [aS, bS] [72, 73, 71, 72, 47, 47, 66, 47, 65] = none := by decide +kernel
theorem wake_p1 : parseV (parseB [lowS, highS] [aS, bS] (⟨#[72, 73, 71, 72, 47, 47, 66]⟩ : ByteArray).data.toList) = .tuple #[.agg #[.int .i64 1, .int .u64 2], .int .i64 0] := by
  rw [show (⟨#[72, 73, 71, 72, 47, 47, 66]⟩ : ByteArray).data.toList = [72, 73, 71, 72, 47, 47, 66] from rfl, wake_parse1]; rfl
theorem wake_p2 : parseV (parseB [lowS, highS] [aS, bS] (⟨#[72, 73, 71, 72, 47, 47, 66, 47, 65]⟩ : ByteArray).data.toList) = .tuple #[.agg #[.int .i64 0, .int .u64 0], .int .i64 2] := by
  rw [show (⟨#[72, 73, 71, 72, 47, 47, 66, 47, 65]⟩ : ByteArray).data.toList = [72, 73, 71, 72, 47, 47, 66, 47, 65] from rfl, wake_parse2]; rfl

set_option maxRecDepth 100000 in
set_option maxHeartbeats 1600000 in
theorem awake_any (m : Int) (w : World) (hm : w.cell? ⟨0, 0, none⟩ = some (.int .i64 m)) :
    Calls Tryd.prog 10 #[] w fun e w' => e = .returned (.bool true) ∧ Below w.heap.size w w' := by
  have h0 := lt_of_cell hm
  simp at h0
  go_enter Tryd.func10, Tryd.ntmps10
  go_wp2_with fail
  have hbw : Below w.heap.size w (((w.alloc (.cells #[.string ⟨#[76, 79, 87]⟩, .string ⟨#[72, 73, 71, 72]⟩] 9)).alloc (.cells #[.string ⟨#[65]⟩, .string ⟨#[66]⟩] 9)).alloc (.cells #[.slice (some ⟨w.heap.size, 0, none⟩) 2 2, .slice (some ⟨w.heap.size + 1, 0, none⟩) 2 2] 24)) :=
    (((Below.refl _ _).alloc (Nat.le_refl _) _).alloc (by simp) _).alloc (by simp; omega) _
  have hs1 : Strs (((w.alloc (.cells #[.string ⟨#[76, 79, 87]⟩, .string ⟨#[72, 73, 71, 72]⟩] 9)).alloc (.cells #[.string ⟨#[65]⟩, .string ⟨#[66]⟩] 9)).alloc (.cells #[.slice (some ⟨w.heap.size, 0, none⟩) 2 2, .slice (some ⟨w.heap.size + 1, 0, none⟩) 2 2] 24)) (w.heap.size + 2) (some ⟨w.heap.size, 0, none⟩) 2 2 [lowS, highS] :=
    ⟨rfl, .inr ⟨_, rfl, .inr ⟨w.heap.size, 0, rfl, by omega, fun j hj => by
      match j, hj with
      | 0, _ => go_simp; rfl
      | 1, _ => go_simp; rfl⟩⟩⟩
  have hs2 : Strs (((w.alloc (.cells #[.string ⟨#[76, 79, 87]⟩, .string ⟨#[72, 73, 71, 72]⟩] 9)).alloc (.cells #[.string ⟨#[65]⟩, .string ⟨#[66]⟩] 9)).alloc (.cells #[.slice (some ⟨w.heap.size, 0, none⟩) 2 2, .slice (some ⟨w.heap.size + 1, 0, none⟩) 2 2] 24)) (w.heap.size + 2) (some ⟨w.heap.size + 1, 0, none⟩) 2 2 [aS, bS] :=
    ⟨rfl, .inr ⟨_, rfl, .inr ⟨w.heap.size + 1, 0, rfl, by omega, fun j hj => by
      match j, hj with
      | 0, _ => go_simp; rfl
      | 1, _ => go_simp; rfl⟩⟩⟩
  have hl0 : (((w.alloc (.cells #[.string ⟨#[76, 79, 87]⟩, .string ⟨#[72, 73, 71, 72]⟩] 9)).alloc (.cells #[.string ⟨#[65]⟩, .string ⟨#[66]⟩] 9)).alloc (.cells #[.slice (some ⟨w.heap.size, 0, none⟩) 2 2, .slice (some ⟨w.heap.size + 1, 0, none⟩) 2 2] 24)).cell? ⟨w.heap.size + 1 + 1, 0, none⟩ = some (.slice (some ⟨w.heap.size, 0, none⟩) 2 2) := by go_simp
  have hl1 : (((w.alloc (.cells #[.string ⟨#[76, 79, 87]⟩, .string ⟨#[72, 73, 71, 72]⟩] 9)).alloc (.cells #[.string ⟨#[65]⟩, .string ⟨#[66]⟩] 9)).alloc (.cells #[.slice (some ⟨w.heap.size, 0, none⟩) 2 2, .slice (some ⟨w.heap.size + 1, 0, none⟩) 2 2] 24)).cell? ⟨w.heap.size + 1 + 1, 1, none⟩ = some (.slice (some ⟨w.heap.size + 1, 0, none⟩) 2 2) := by go_simp
  have hz : (((w.alloc (.cells #[.string ⟨#[76, 79, 87]⟩, .string ⟨#[72, 73, 71, 72]⟩] 9)).alloc (.cells #[.string ⟨#[65]⟩, .string ⟨#[66]⟩] 9)).alloc (.cells #[.slice (some ⟨w.heap.size, 0, none⟩) 2 2, .slice (some ⟨w.heap.size + 1, 0, none⟩) 2 2] 24)).heap.size = w.heap.size + 1 + 1 + 1 := by simp
  have hm0 := (hbw.cell (p := ⟨0, 0, none⟩) (by simpa using h0)).trans hm
  revert hbw hs1 hs2 hl0 hl1 hz hm0
  generalize (((w.alloc (.cells #[.string ⟨#[76, 79, 87]⟩, .string ⟨#[72, 73, 71, 72]⟩] 9)).alloc (.cells #[.string ⟨#[65]⟩, .string ⟨#[66]⟩] 9)).alloc (.cells #[.slice (some ⟨w.heap.size, 0, none⟩) 2 2, .slice (some ⟨w.heap.size + 1, 0, none⟩) 2 2] 24)) = w0
  intro hbw hs1 hs2 hl0 hl1 hz hm0
  have hsz : ∀ s ∈ [lowS, highS] ++ [aS, bS], s.size ≤ maxLen := by decide
  refine (print_any (w.heap.size + 2) 2 2 2 2 _ _ [lowS, highS] [aS, bS] 1 3 w0 (by omega) hs1 hs2 hsz).mono ?_
  rintro e w1 ⟨rfl, hb1⟩
  rw [wake_print1]
  have hl2 := (hb1.cell (p := ⟨w.heap.size + 1 + 1, 0, none⟩) (by simp; omega)).trans hl0
  have hl3 := (hb1.cell (p := ⟨w.heap.size + 1 + 1, 1, none⟩) (by simp; omega)).trans hl1
  have hm1 := (hb1.cell (p := ⟨0, 0, none⟩) (by simp; omega)).trans hm0
  have hz1 := hb1.size
  have hs3 := hs1.below (hb1.mono (by omega))
  have hs4 := hs2.below (hb1.mono (by omega))
  have hbw1 := hbw.trans (hb1.mono (by omega))
  clear hl0 hl1 hs1 hs2 hb1 hm0 hm hbw
  go_wp2_with fail
  refine (parse_any (w.heap.size + 2) 2 2 2 2 _ _ [lowS, highS] [aS, bS] ⟨#[72, 73, 71, 72, 47, 47, 66]⟩ m w1 (by omega) hs3 hs4 hsz (by decide) hm1).mono ?_
  rintro e w2 ⟨rfl, hb2⟩
  rw [wake_p1]
  have hl4 := (hb2.cell (p := ⟨w.heap.size + 1 + 1, 0, none⟩) (by simp; omega)).trans hl2
  have hl5 := (hb2.cell (p := ⟨w.heap.size + 1 + 1, 1, none⟩) (by simp; omega)).trans hl3
  have hm2 := (hb2.cell (p := ⟨0, 0, none⟩) (by simp; omega)).trans hm1
  have hz2 := hb2.size
  have hs5 := hs3.below (hb2.mono (by omega))
  have hs6 := hs4.below (hb2.mono (by omega))
  have hbw2 := hbw1.trans (hb2.mono (by omega))
  clear hl2 hl3 hs3 hs4 hb2 hm1 hbw1
  have hy2 : w.heap.size + 1 + 1 < w2.heap.size := by omega
  go_wp2_with fail
  have hbn : Below w2.heap.size w2 (w2.alloc (.cells #[.int .i64 1, .int .u64 2] 27)) := (Below.refl _ _).alloc (Nat.le_refl _) _
  have hl6 := (hbn.cell (p := ⟨w.heap.size + 1 + 1, 0, none⟩) (by simp; omega)).trans hl4
  have hl7 := (hbn.cell (p := ⟨w.heap.size + 1 + 1, 1, none⟩) (by simp; omega)).trans hl5
  have hm3 := (hbn.cell (p := ⟨0, 0, none⟩) (by simp; omega)).trans hm2
  have hs7 := hs5.below (hbn.mono (by omega))
  have hs8 := hs6.below (hbn.mono (by omega))
  have hbw3 := hbw2.trans (hbn.mono (by omega))
  have k0 : (w2.alloc (.cells #[.int .i64 1, .int .u64 2] 27)).cell? ⟨w2.heap.size, 0, none⟩ = some (.int .i64 1) := by go_simp
  have k1 : (w2.alloc (.cells #[.int .i64 1, .int .u64 2] 27)).cell? ⟨w2.heap.size, 1, none⟩ = some (.int .u64 2) := by go_simp
  have hz3 : (w2.alloc (.cells #[.int .i64 1, .int .u64 2] 27)).heap.size = w2.heap.size + 1 := by simp
  clear hbn hl4 hl5 hm2 hs5 hs6 hbw2
  revert hl6 hl7 hm3 hs7 hs8 hbw3 k0 k1 hz3
  generalize w2.alloc (.cells #[.int .i64 1, .int .u64 2] 27) = w3
  intro hl6 hl7 hm3 hs7 hs8 hbw3 k0 k1 hz3
  refine (parse_any (w.heap.size + 2) 2 2 2 2 _ _ [lowS, highS] [aS, bS] ⟨#[72, 73, 71, 72, 47, 47, 66, 47, 65]⟩ m w3 (by omega) hs7 hs8 hsz (by decide) hm3).mono ?_
  rintro e w4 ⟨rfl, hb4⟩
  rw [wake_p2]
  have hl8 := (hb4.cell (p := ⟨w.heap.size + 1 + 1, 0, none⟩) (by simp; omega)).trans hl6
  have hl9 := (hb4.cell (p := ⟨w.heap.size + 1 + 1, 1, none⟩) (by simp; omega)).trans hl7
  have k2 := (hb4.cell (p := ⟨w2.heap.size, 0, none⟩) (by simp; omega)).trans k0
  have k3 := (hb4.cell (p := ⟨w2.heap.size, 1, none⟩) (by simp; omega)).trans k1
  have hz4 := hb4.size
  have hs9 := hs7.below (hb4.mono (by omega))
  have hs10 := hs8.below (hb4.mono (by omega))
  have hbw4 := hbw3.trans (hb4.mono (by omega))
  have hy4 : w.heap.size + 1 + 1 < w4.heap.size := by omega
  clear hl6 hl7 hm3 hs7 hs8 hbw3 k0 k1 hb4
  go_wp2_with fail
  have hbn : Below w4.heap.size w4 (w4.alloc (.cells #[.int .i64 0, .int .u64 0] 27)) := (Below.refl _ _).alloc (Nat.le_refl _) _
  have hl6 := (hbn.cell (p := ⟨w.heap.size + 1 + 1, 0, none⟩) (by simp; omega)).trans hl8
  have hl7 := (hbn.cell (p := ⟨w.heap.size + 1 + 1, 1, none⟩) (by simp; omega)).trans hl9
  have k0 := (hbn.cell (p := ⟨w2.heap.size, 0, none⟩) (by simp; omega)).trans k2
  have k1 := (hbn.cell (p := ⟨w2.heap.size, 1, none⟩) (by simp; omega)).trans k3
  have hs7 := hs9.below (hbn.mono (by omega))
  have hs8 := hs10.below (hbn.mono (by omega))
  have hbw5 := hbw4.trans (hbn.mono (by omega))
  have hz5 : (w4.alloc (.cells #[.int .i64 0, .int .u64 0] 27)).heap.size = w4.heap.size + 1 := by simp
  clear hbn hl8 hl9 k2 k3 hs9 hs10 hbw4
  revert hl6 hl7 k0 k1 hs7 hs8 hbw5 hz5
  generalize w4.alloc (.cells #[.int .i64 0, .int .u64 0] 27) = w5
  intro hl6 hl7 k0 k1 hs7 hs8 hbw5 hz5
  refine (new_yes (w.heap.size + 2) 2 2 2 2 _ _ [lowS, highS] [aS, bS] w5 (by omega) hs7 hs8 hsz wake_right).mono ?_
  rintro e w6 ⟨N, rfl, hN, ⟨A, c, A', c', hNm, hq1, hq2⟩, hb6⟩
  have hl8 := (hb6.cell (p := ⟨w.heap.size + 1 + 1, 0, none⟩) (by simp; omega)).trans hl6
  have hl9 := (hb6.cell (p := ⟨w.heap.size + 1 + 1, 1, none⟩) (by simp; omega)).trans hl7
  have k2 := (hb6.cell (p := ⟨w2.heap.size, 0, none⟩) (by simp; omega)).trans k0
  have k3 := (hb6.cell (p := ⟨w2.heap.size, 1, none⟩) (by simp; omega)).trans k1
  have hz6 := hb6.size
  have hs9 := hs7.below (hb6.mono (by omega))
  have hs10 := hs8.below (hb6.mono (by omega))
  have hbw6 := hbw5.trans (hb6.mono (by omega))
  clear hl6 hl7 hs7 hs8 hbw5 k0 k1 hb6
  go_wp2_with fail
  have hNlt := hNm.lt
  refine (nprint_any N 2 c 2 c' A A' [lowS, highS] [aS, bS] 0 0 0 w6 (.inl ⟨hNm, hq1, hq2⟩) wake_right).mono ?_
  rintro e w7 ⟨rfl, hM, hg7⟩
  rw [wake_print2]
  rw [show wrap64 (0 + 1) = 1 from IntWalk.wrap64_in 1 (by omega)] at hM
  obtain ⟨ml, mc, hM7⟩ := hM.2.2
  have hM8 := hM7.1
  have hb7 := below_of_grownBy (B := w5.heap.size) hg7 (by omega) hN
  have hl6 := (hb7.cell (p := ⟨w.heap.size + 1 + 1, 0, none⟩) (by simp; omega)).trans hl8
  have hl7 := (hb7.cell (p := ⟨w.heap.size + 1 + 1, 1, none⟩) (by simp; omega)).trans hl9
  have k0 := (hb7.cell (p := ⟨w2.heap.size, 0, none⟩) (by simp; omega)).trans k2
  have k1 := (hb7.cell (p := ⟨w2.heap.size, 1, none⟩) (by simp; omega)).trans k3
  have hs7 := hs9.below (hb7.mono (by omega))
  have hs8 := hs10.below (hb7.mono (by omega))
  have hbw7 := hbw6.trans (hb7.mono (by omega))
  have hz7 := hg7.size
  clear hl8 hl9 hs9 hs10 hbw6 k2 k3 hM hM7 hNm hq1 hq2 hg7
  go_wp2_with fail
  refine (nasked_any N 2 c 2 c' A A' 1 0 1 (some ml) (some mc) w7 hM8 (by omega)).mono ?_
  rintro e w8 ⟨rfl, rfl⟩
  go_wp2_with fail
  refine (dom_any 1 2 0 0 _).mono ?_
  rintro e w9 ⟨rfl, hb9⟩
  rw [show domB 1 2 0 0 = true from by decide +kernel]
  have hl8 := (hb9.cell (p := ⟨w.heap.size + 1 + 1, 0, none⟩) (by simp; omega)).trans hl6
  have hl9 := (hb9.cell (p := ⟨w.heap.size + 1 + 1, 1, none⟩) (by simp; omega)).trans hl7
  have hs9 := hs7.below (hb9.mono (by omega))
  have hs10 := hs8.below (hb9.mono (by omega))
  have hz9 := hb9.size
  have hbw9 := hbw7.trans (hb9.mono (by omega))
  clear hl6 hl7 hs7 hs8 hbw7 k0 k1 hM8 hb9
  go_wp2_with fail
  refine (right_any (w.heap.size + 2) 2 2 2 2 _ _ [lowS, highS] [aS, bS] w9 (by omega) hs9 hs10 hsz).mono ?_
  rintro e wa ⟨rfl, hba⟩
  rw [wake_right]
  go_wp2
  go_ret
  exact ⟨rfl, hbw9.trans (hba.mono (by omega))⟩
end Go.Proofs.YtkjiaklpffnhlaaDoor
