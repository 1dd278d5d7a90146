/-
  awake, the second law file's own call: true, and what it makes lies in memory of its own.
-/
import Derived.Test.YtkjiaklpffnhlaaDoorMarkR
import Derived.Test.YtkjiaklpffnhlaaDoorEql
namespace Go.Proofs.YtkjiaklpffnhlaaDoor
open Go.RowKit

def lowM : ByteArray := ⟨#[76, 79, 87]⟩
def highM : ByteArray := ⟨#[72, 73, 71, 72]⟩
def helloS : ByteArray := ⟨#[104, 101, 108, 108, 111]⟩
def markedL : List UInt8 := [77, 65, 82, 75, 58, 32, 72, 73, 71, 72, 13, 10, 104, 101, 108, 108, 111]
theorem wakeM_mark : markB [lowM, highM] [] 1 0 helloS.data.toList = (markedL, 0) := by decide +kernel
theorem wakeM_read : readB [lowM, highM] [] markedL = ((1, 0), helloS.data.toList, 0) := by decide +kernel
theorem wakeM_bare : readB [lowM, highM] [] helloS.data.toList = ((0, 0), [], 11) := by decide +kernel
theorem wakeM_check1 : checkB [lowM, highM] [] 0 0 markedL = 8 := by decide +kernel
theorem wakeM_check2 : checkB [lowM, highM] [] 1 0 markedL = 0 := by decide +kernel

set_option maxRecDepth 100000 in
set_option maxHeartbeats 1600000 in
theorem awakeM_any (m : Int) (w : World) (hm : w.cell? ⟨0, 0, none⟩ = some (.int .i64 m)) :
    Calls Tryd.prog 26 #[] w fun e w' => e = .returned (.bool true) ∧ Below w.heap.size w w' := by
  have h0 := lt_of_cell hm
  simp at h0
  have hql : ∀ W, (Op.equalIn 10000 27 (.agg #[.int .i64 1, .int .u64 0]) (.agg #[.int .i64 1, .int .u64 0])).run Tryd.prog W = .ok true W := fun W => by rw [eql_label, decide_eq_true ⟨rfl, rfl⟩]
  go_enter Tryd.func26, Tryd.ntmps26
  go_wp2_with fail
  have hbw : Below w.heap.size w ((w.alloc (.cells #[.string ⟨#[76, 79, 87]⟩, .string ⟨#[72, 73, 71, 72]⟩] 9)).alloc (.cells #[.slice (some ⟨w.heap.size, 0, none⟩) 2 2, .slice none 0 0] 24)) :=
    ((Below.refl _ _).alloc (Nat.le_refl _) _).alloc (by simp) _
  have hs1 : Strs ((w.alloc (.cells #[.string ⟨#[76, 79, 87]⟩, .string ⟨#[72, 73, 71, 72]⟩] 9)).alloc (.cells #[.slice (some ⟨w.heap.size, 0, none⟩) 2 2, .slice none 0 0] 24)) (w.heap.size + 2) (some ⟨w.heap.size, 0, none⟩) 2 2 [lowM, highM] :=
    ⟨rfl, .inr ⟨_, rfl, .inr ⟨w.heap.size, 0, rfl, by omega, fun j hj => by
      match j, hj with
      | 0, _ => go_simp; rfl
      | 1, _ => go_simp; rfl⟩⟩⟩
  have hs2 : ∀ W : World, Strs W (w.heap.size + 2) none 0 0 [] := fun W => ⟨rfl, .inl ⟨rfl, rfl, rfl⟩⟩
  have hl0 : ((w.alloc (.cells #[.string ⟨#[76, 79, 87]⟩, .string ⟨#[72, 73, 71, 72]⟩] 9)).alloc (.cells #[.slice (some ⟨w.heap.size, 0, none⟩) 2 2, .slice none 0 0] 24)).cell? ⟨w.heap.size + 1, 0, none⟩ = some (.slice (some ⟨w.heap.size, 0, none⟩) 2 2) := by go_simp
  have hl1 : ((w.alloc (.cells #[.string ⟨#[76, 79, 87]⟩, .string ⟨#[72, 73, 71, 72]⟩] 9)).alloc (.cells #[.slice (some ⟨w.heap.size, 0, none⟩) 2 2, .slice none 0 0] 24)).cell? ⟨w.heap.size + 1, 1, none⟩ = some (.slice none 0 0) := by go_simp
  have hz : ((w.alloc (.cells #[.string ⟨#[76, 79, 87]⟩, .string ⟨#[72, 73, 71, 72]⟩] 9)).alloc (.cells #[.slice (some ⟨w.heap.size, 0, none⟩) 2 2, .slice none 0 0] 24)).heap.size = w.heap.size + 2 := by simp
  have hm0 := (hbw.cell (p := ⟨0, 0, none⟩) (by simpa using h0)).trans hm
  revert hbw hs1 hl0 hl1 hz hm0
  generalize ((w.alloc (.cells #[.string ⟨#[76, 79, 87]⟩, .string ⟨#[72, 73, 71, 72]⟩] 9)).alloc (.cells #[.slice (some ⟨w.heap.size, 0, none⟩) 2 2, .slice none 0 0] 24)) = w0
  intro hbw hs1 hl0 hl1 hz hm0
  have hsz : ∀ s ∈ [lowM, highM] ++ [], s.size ≤ maxLen := by decide
  have HS2 := Lib.hid hs2
  have hK : Hid (∀ W, Below w0.heap.size w0 W → W.cell? ⟨w.heap.size + 1, 0, none⟩ = some (.slice (some ⟨w.heap.size, 0, none⟩) 2 2) ∧ W.cell? ⟨w.heap.size + 1, 1, none⟩ = some (.slice none 0 0) ∧ Strs W (w.heap.size + 2) (some ⟨w.heap.size, 0, none⟩) 2 2 [lowM, highM] ∧ W.cell? ⟨0, 0, none⟩ = some (.int .i64 m) ∧ Below w.heap.size w W) := Lib.hid fun W hb =>
    ⟨(hb.cell (p := ⟨w.heap.size + 1, 0, none⟩) (by simp; omega)).trans hl0, (hb.cell (p := ⟨w.heap.size + 1, 1, none⟩) (by simp; omega)).trans hl1, hs1.below (hb.mono (by omega)), (hb.cell (p := ⟨0, 0, none⟩) (by simp; omega)).trans hm0, hbw.trans (hb.mono (by omega))⟩
  have hz0 : w.heap.size + 2 ≤ w0.heap.size := by omega
  refine (mark_any (w.heap.size + 2) 2 2 0 0 _ _ [lowM, highM] [] 1 0 helloS w0 (by omega) hs1 (HS2.out _) hsz (by decide)).mono ?_
  rintro e w1 ⟨rfl, hb1⟩
  rw [wakeM_mark]
  have hz1 := hb1.size
  clear hl0 hl1 hs1 hm0 hm hbw hs2 hz
  obtain ⟨l0, l1, s1, m1, x1⟩ := hK.out _ hb1
  go_wp2_with fail
  refine (read_any (w.heap.size + 2) 2 2 0 0 _ _ [lowM, highM] [] ⟨markedL.toArray⟩ m w1 (by omega) s1 (HS2.out _) hsz (by decide) m1).mono ?_
  rintro e w2 ⟨rfl, hb2⟩
  rw [show readV (readB [lowM, highM] [] (⟨markedL.toArray⟩ : ByteArray).data.toList) = .tuple #[.agg #[.int .i64 1, .int .u64 0], .string ⟨#[104, 101, 108, 108, 111]⟩, .int .i64 0] by
    rw [show (⟨markedL.toArray⟩ : ByteArray).data.toList = markedL from rfl, wakeM_read]; rfl]
  have hb2' := hb1.trans (hb2.mono hz1)
  have hz2 := hb2'.size
  have hb3 : Below w0.heap.size w0 (w2.alloc (.cells #[.int .i64 1, .int .u64 0] 27)) := hb2'.alloc hz2 _
  clear l0 l1 s1 m1 x1 hb1 hb2
  obtain ⟨l0, l1, s1, m1, x1⟩ := hK.out _ hb3
  have y2 : w.heap.size + 1 < w2.heap.size := by omega
  go_wp2_with fail
  have k0 : (w2.alloc (.cells #[.int .i64 1, .int .u64 0] 27)).cell? ⟨w2.heap.size, 0, none⟩ = some (.int .i64 1) := by go_simp
  have k1 : (w2.alloc (.cells #[.int .i64 1, .int .u64 0] 27)).cell? ⟨w2.heap.size, 1, none⟩ = some (.int .u64 0) := by go_simp
  have hz3 : (w2.alloc (.cells #[.int .i64 1, .int .u64 0] 27)).heap.size = w2.heap.size + 1 := by simp
  revert l0 l1 s1 m1 x1 k0 k1 hz3 hb3
  generalize w2.alloc (.cells #[.int .i64 1, .int .u64 0] 27) = w3
  intro hb3 l0 l1 s1 m1 x1 k0 k1 hz3
  refine (read_any (w.heap.size + 2) 2 2 0 0 _ _ [lowM, highM] [] helloS m w3 (by omega) s1 (HS2.out _) hsz (by decide) m1).mono ?_
  rintro e w4 ⟨rfl, hb4⟩
  rw [show readV (readB [lowM, highM] [] helloS.data.toList) = .tuple #[.agg #[.int .i64 0, .int .u64 0], .string ⟨#[]⟩, .int .i64 11] by rw [wakeM_bare]; rfl]
  have hb4' := hb3.trans (hb4.mono (by omega))
  have hz4 := hb4.size
  have hb5 : Below w0.heap.size w0 (w4.alloc (.cells #[.int .i64 0, .int .u64 0] 27)) := hb4'.alloc (by omega) _
  have k2 := (hb4.cell (p := ⟨w2.heap.size, 0, none⟩) (by simp; omega)).trans k0
  have k3 := (hb4.cell (p := ⟨w2.heap.size, 1, none⟩) (by simp; omega)).trans k1
  have y4 : w2.heap.size < w4.heap.size := by omega
  have k4 : (w4.alloc (.cells #[.int .i64 0, .int .u64 0] 27)).cell? ⟨w2.heap.size, 0, none⟩ = some (.int .i64 1) := by go_simp
  have k5 : (w4.alloc (.cells #[.int .i64 0, .int .u64 0] 27)).cell? ⟨w2.heap.size, 1, none⟩ = some (.int .u64 0) := by go_simp
  clear l0 l1 s1 m1 x1 hb4 k0 k1
  obtain ⟨l0, l1, s1, m1, x1⟩ := hK.out _ hb5
  have hz5 : (w4.alloc (.cells #[.int .i64 0, .int .u64 0] 27)).heap.size = w4.heap.size + 1 := by simp
  go_wp2_with fail
  refine (check_any_m (w.heap.size + 2) 2 2 0 0 _ _ [lowM, highM] [] 0 0 ⟨markedL.toArray⟩ m _ (by omega) s1 (HS2.out _) hsz (by decide) m1).mono ?_
  rintro e w6 ⟨rfl, hb6⟩
  rw [show (⟨markedL.toArray⟩ : ByteArray).data.toList = markedL from rfl, wakeM_check1]
  have hb6' := hb5.trans (hb6.mono (by omega))
  have hz6 := hb6'.size
  have k6 := (hb6.cell (p := ⟨w2.heap.size, 0, none⟩) (by simp; omega)).trans k4
  have k7 := (hb6.cell (p := ⟨w2.heap.size, 1, none⟩) (by simp; omega)).trans k5
  clear l0 l1 s1 m1 x1 hb6
  obtain ⟨l0, l1, s1, m1, x1⟩ := hK.out _ hb6'
  go_wp2_with fail
  refine (check_any_m (w.heap.size + 2) 2 2 0 0 _ _ [lowM, highM] [] 1 0 ⟨markedL.toArray⟩ m _ (by omega) s1 (HS2.out _) hsz (by decide) m1).mono ?_
  rintro e w7 ⟨rfl, hb7⟩
  rw [show (⟨markedL.toArray⟩ : ByteArray).data.toList = markedL from rfl, wakeM_check2]
  have hb7' := hb6'.trans (hb7.mono hz6)
  obtain ⟨_, _, _, _, x7⟩ := hK.out _ hb7'
  go_wp2
  go_ret
  exact ⟨rfl, x7⟩
end Go.Proofs.YtkjiaklpffnhlaaDoor
