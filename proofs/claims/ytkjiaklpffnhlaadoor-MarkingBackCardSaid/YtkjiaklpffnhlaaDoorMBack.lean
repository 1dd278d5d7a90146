/-
  MarkingBack returns true, for any lists of strings, any two labels and any text: the walk.
-/
import Derived.Test.YtkjiaklpffnhlaaDoorAwakeM
import Derived.Test.YtkjiaklpffnhlaaDoorIn
import Derived.Test.YtkjiaklpffnhlaaDoorFew
import Derived.Test.YtkjiaklpffnhlaaDoorMarkG
namespace Go.Proofs.YtkjiaklpffnhlaaDoor
open Go.RowKit

set_option maxRecDepth 100000 in
set_option maxHeartbeats 8000000 in
theorem mback_walk (B n c n' c' : Nat) (A A' : Option Addr) (ss ss' : List ByteArray) (la ca lb cb m : Int) (s : ByteArray) (w : World) (hB : B ≤ w.heap.size) (h1 : Strs w B A n c ss) (h2 : Strs w B A' n' c' ss') (hsz : ∀ s ∈ ss ++ ss', s.size ≤ maxLen)
    (hm : w.cell? ⟨0, 0, none⟩ = some (.int .i64 m)) (hc1 : 0 ≤ ca ∧ ca < 18446744073709551616) (hs : s.size ≤ maxLen) :
    Calls Tryd.prog 6 #[.agg #[.slice A n c, .slice A' n' c'], .agg #[.int .i64 la, .int .u64 ca], .agg #[.int .i64 lb, .int .u64 cb], .string s] w fun e w' => e = .returned (.bool true) ∧ Below w.heap.size w w' := by
  have hnot : ∀ (x : Bool) (w : World), (Op.unary .not (.bool x)).run Tryd.prog w = .ok (.bool (!x)) w := fun _ _ => rfl
  have h0 := lt_of_cell hm
  simp at h0
  have hbw : Below w.heap.size w (((w.alloc (.cells #[.slice A n c, .slice A' n' c'] 24)).alloc (.cells #[.int .i64 la, .int .u64 ca] 27)).alloc (.cells #[.int .i64 lb, .int .u64 cb] 27)) := (((Below.refl _ _).alloc (Nat.le_refl _) _).alloc (by simp) _).alloc (by simp; omega) _
  have hm1 := (hbw.cell (p := ⟨0, 0, none⟩) (by simpa using h0)).trans hm
  have haw := awakeM_any m _ hm1
  have hl1 := h1.len
  have hl2 := h2.len
  unfold maxLen at hs
  go_enter Tryd.func6, Tryd.ntmps6
  go_wp2_with fail
  refine haw.mono ?_
  rintro e w1 ⟨rfl, hb1⟩
  have a0 : w1.cell? ⟨w.heap.size, 0, none⟩ = some (.slice A n c) := by rw [hb1.cell (by simp; try omega)]; go_simp
  have a1 : w1.cell? ⟨w.heap.size, 1, none⟩ = some (.slice A' n' c') := by rw [hb1.cell (by simp; try omega)]; go_simp
  have b0 : w1.cell? ⟨w.heap.size + 1, 0, none⟩ = some (.int .i64 la) := by rw [hb1.cell (by simp; try omega)]; go_simp
  have b1 : w1.cell? ⟨w.heap.size + 1, 1, none⟩ = some (.int .u64 ca) := by rw [hb1.cell (by simp; try omega)]; go_simp
  have c0 : w1.cell? ⟨w.heap.size + 1 + 1, 0, none⟩ = some (.int .i64 lb) := by rw [hb1.cell (by simp)]; go_simp
  have c1 : w1.cell? ⟨w.heap.size + 1 + 1, 1, none⟩ = some (.int .u64 cb) := by rw [hb1.cell (by simp)]; go_simp
  have hz1 : w.heap.size + 3 ≤ w1.heap.size := by have := hb1.size; simp at this; omega
  have hbw1 : Below w.heap.size w w1 := hbw.trans (hb1.mono (by simp; omega))
  have s1 := h1.below (hbw1.mono hB)
  have s2 := h2.below (hbw1.mono hB)
  have mm := (hbw1.cell (p := ⟨0, 0, none⟩) (by simpa using h0)).trans hm
  have hK : Hid (∀ W, Below w1.heap.size w1 W → W.cell? ⟨w.heap.size, 0, none⟩ = some (.slice A n c) ∧ W.cell? ⟨w.heap.size, 1, none⟩ = some (.slice A' n' c') ∧ W.cell? ⟨w.heap.size + 1, 0, none⟩ = some (.int .i64 la) ∧ W.cell? ⟨w.heap.size + 1, 1, none⟩ = some (.int .u64 ca) ∧ W.cell? ⟨w.heap.size + 1 + 1, 0, none⟩ = some (.int .i64 lb) ∧ W.cell? ⟨w.heap.size + 1 + 1, 1, none⟩ = some (.int .u64 cb) ∧ Strs W B A n c ss ∧ Strs W B A' n' c' ss' ∧ W.cell? ⟨0, 0, none⟩ = some (.int .i64 m) ∧ Below w.heap.size w W) := Lib.hid fun W hb =>
    ⟨(hb.cell (p := ⟨w.heap.size, 0, none⟩) (by simp; omega)).trans a0, (hb.cell (p := ⟨w.heap.size, 1, none⟩) (by simp; omega)).trans a1, (hb.cell (p := ⟨w.heap.size + 1, 0, none⟩) (by simp; omega)).trans b0, (hb.cell (p := ⟨w.heap.size + 1, 1, none⟩) (by simp; omega)).trans b1,
      (hb.cell (p := ⟨w.heap.size + 1 + 1, 0, none⟩) (by simp; omega)).trans c0, (hb.cell (p := ⟨w.heap.size + 1 + 1, 1, none⟩) (by simp; omega)).trans c1, s1.below (hb.mono (by omega)), s2.below (hb.mono (by omega)), (hb.cell (p := ⟨0, 0, none⟩) (by simp; omega)).trans mm, hbw1.trans (hb.mono (by omega))⟩
  have Hsz := Lib.hid hsz
  have Hl1 := Lib.hid hl1
  have Hl2 := Lib.hid hl2
  clear hb1 hbw hm hm1 haw h1 h2 hbw1 mm hsz hl1 hl2
  go_wp2_with fail
  refine (few_any B n c n' c' A A' ss ss' w1 (by omega) s1 s2 Hsz.out).mono ?_
  rintro e w2 ⟨⟨b, rfl⟩, hb2⟩
  clear a0 a1 b0 b1 c0 c1 s1 s2
  obtain ⟨a0, a1, b0, b1, c0, c1, s1, s2, mm, hw2⟩ := hK.out _ hb2
  have hz2 := hb2.size
  cases b
  · go_wp2
    go_ret
    exact ⟨rfl, hw2⟩
  by_cases h3 : s.size ≤ 5000
  case neg =>
    go_wp2
    go_ret
    exact ⟨rfl, hw2⟩
  rcases mark_cases ss ss' la ca s.data.toList with ⟨hr, hh⟩ | ⟨z, hz, hmk, hin⟩
  case inr =>
    rw [Hl1.out, Hl2.out] at hin
    have Hmk := Lib.hid hmk
    have Hin := Lib.hid hin
    clear hmk hin
    rcases hz with rfl | rfl
    all_goals
      go_wp2_with fail
      refine (mark_any B n c n' c' A A' ss ss' la ca s w2 (by omega) s1 s2 Hsz.out (by omega)).mono ?_
      rintro e w3 ⟨rfl, hb3⟩
      rw [Hmk.out]
      have hb3' := hb2.trans (hb3.mono hb2.size)
      have hz3 := hb3'.size
      clear a0 a1 b0 b1 c0 c1 s1 s2 mm hw2
      obtain ⟨a0, a1, b0, b1, c0, c1, s1, s2, mm, hw3⟩ := hK.out _ hb3'
      go_wp2_with fail
      refine (in_any B n c n' c' A A' ss ss' la ca w3 (by omega) s1 s2 Hsz.out).mono ?_
      rintro e w4 ⟨rfl, hb4⟩
      rw [Hin.out]
      have hb4' := hb3'.trans (hb4.mono hb3'.size)
      have hz4 := hb4'.size
      clear a0 a1 b0 b1 c0 c1 s1 s2 mm hw3
      obtain ⟨a0, a1, b0, b1, c0, c1, s1, s2, mm, hw4⟩ := hK.out _ hb4'
      go_wp2
      go_ret
      exact ⟨rfl, hw4⟩
  obtain ⟨M, hM1, hM2, hM3, hM4⟩ := marked hr hc1.1 hc1.2 hh s
  have hMs : (⟨M.toArray⟩ : ByteArray).size < 4294967281 := by
    show M.length < _
    omega
  obtain ⟨X, hX⟩ : ∃ X, domB lb cb la ca = X := ⟨_, rfl⟩
  have hck := hM4 lb cb
  rw [hX] at hck
  have Hmk := Lib.hid hM2
  have Hrd := Lib.hid hM3
  have Hck := Lib.hid hck
  have HX := Lib.hid hX
  have hql : ∀ W, (Op.equalIn 10000 27 (.agg #[.int .i64 la, .int .u64 ca]) (.agg #[.int .i64 la, .int .u64 ca])).run Tryd.prog W = .ok true W := fun W => by rw [eql_label, decide_eq_true ⟨rfl, rfl⟩]
  clear hM1 hM2 hM3 hM4 hck hX hr hh
  go_wp2_with fail
  refine (mark_any B n c n' c' A A' ss ss' la ca s w2 (by omega) s1 s2 Hsz.out (by omega)).mono ?_
  rintro e w3 ⟨rfl, hb3⟩
  rw [Hmk.out]
  have hb3' := hb2.trans (hb3.mono hb2.size)
  have hz3 := hb3'.size
  clear a0 a1 b0 b1 c0 c1 s1 s2 mm hw2
  obtain ⟨a0, a1, b0, b1, c0, c1, s1, s2, mm, hw3⟩ := hK.out _ hb3'
  go_wp2_with fail
  refine (read_any B n c n' c' A A' ss ss' ⟨M.toArray⟩ m w3 (by omega) s1 s2 Hsz.out hMs mm).mono ?_
  rintro e w4 ⟨rfl, hb4⟩
  rw [show (⟨M.toArray⟩ : ByteArray).data.toList = M by simp, Hrd.out]
  have hb4' := hb3'.trans (hb4.mono hb3'.size)
  have hz4 := hb4'.size
  have hb5' : Below w1.heap.size w1 (w4.alloc (.cells #[.int .i64 la, .int .u64 ca] 27)) := hb4'.alloc hz4 _
  have k0 : (w4.alloc (.cells #[.int .i64 la, .int .u64 ca] 27)).cell? ⟨w4.heap.size, 0, none⟩ = some (.int .i64 la) := by go_simp
  have k1 : (w4.alloc (.cells #[.int .i64 la, .int .u64 ca] 27)).cell? ⟨w4.heap.size, 1, none⟩ = some (.int .u64 ca) := by go_simp
  have hz5 : (w4.alloc (.cells #[.int .i64 la, .int .u64 ca] 27)).heap.size = w4.heap.size + 1 := by simp
  clear a0 a1 b0 b1 c0 c1 s1 s2 mm hw3
  obtain ⟨a0, a1, b0, b1, c0, c1, s1, s2, mm, hw5⟩ := hK.out _ hb5'
  go_wp2_with fail
  refine (dom_any lb cb la ca _).mono ?_
  rintro e w6 ⟨rfl, hb6⟩
  rw [HX.out]
  have k2 := (hb6.cell (p := ⟨w4.heap.size, 0, none⟩) (by simp)).trans k0
  have k3 := (hb6.cell (p := ⟨w4.heap.size, 1, none⟩) (by simp)).trans k1
  have y6 : w4.heap.size < w6.heap.size := by have := hb6.size; omega
  clear k0 k1
  have hb6' := hb5'.trans (hb6.mono hb5'.size)
  have hz6 := hb6'.size
  clear a0 a1 b0 b1 c0 c1 s1 s2 mm hw5
  obtain ⟨a0, a1, b0, b1, c0, c1, s1, s2, mm, hw6⟩ := hK.out _ hb6'
  cases X
  all_goals
    go_wp2_with fail
    refine (check_any_m B n c n' c' A A' ss ss' lb cb ⟨M.toArray⟩ m w6 (by omega) s1 s2 Hsz.out hMs mm).mono ?_
    rintro e w7 ⟨rfl, hb7⟩
    rw [show (⟨M.toArray⟩ : ByteArray).data.toList = M by simp, Hck.out]
    have hb7' := hb6'.trans (hb7.mono hb6'.size)
    have hz7 := hb7'.size
    clear a0 a1 b0 b1 c0 c1 s1 s2 mm hw6
    obtain ⟨a0, a1, b0, b1, c0, c1, s1, s2, mm, hw7⟩ := hK.out _ hb7'
    go_wp2
    go_ret
    exact ⟨rfl, hw7⟩
end Go.Proofs.YtkjiaklpffnhlaaDoor
