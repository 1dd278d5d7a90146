/-
  MarkingLines returns true, for any lists of strings and any two labels: the walk.
-/
import Derived.Test.YtkjiaklpffnhlaaDoorAwakeM
import Derived.Test.YtkjiaklpffnhlaaDoorIn
import Derived.Test.YtkjiaklpffnhlaaDoorFew
import Derived.Test.YtkjiaklpffnhlaaDoorMarkG
namespace Go.Proofs.YtkjiaklpffnhlaaDoor
open Go.RowKit

set_option maxRecDepth 100000 in
set_option maxHeartbeats 8000000 in
theorem mlines_walk (B n c n' c' : Nat) (A A' : Option Addr) (ss ss' : List ByteArray) (la ca lb cb m : Int) (w : World) (hB : B ≤ w.heap.size) (h1 : Strs w B A n c ss) (h2 : Strs w B A' n' c' ss') (hsz : ∀ s ∈ ss ++ ss', s.size ≤ maxLen)
    (hm : w.cell? ⟨0, 0, none⟩ = some (.int .i64 m)) (hc1 : 0 ≤ ca ∧ ca < 18446744073709551616) (hc2 : 0 ≤ cb ∧ cb < 18446744073709551616) :
    Calls Tryd.prog 9 #[.agg #[.slice A n c, .slice A' n' c'], .agg #[.int .i64 la, .int .u64 ca], .agg #[.int .i64 lb, .int .u64 cb]] w fun e w' => e = .returned (.bool true) ∧ Below w.heap.size w w' := by
  have hnot : ∀ (x : Bool) (w : World), (Op.unary .not (.bool x)).run Tryd.prog w = .ok (.bool (!x)) w := fun _ _ => rfl
  have h0 := lt_of_cell hm
  simp at h0
  have hbw : Below w.heap.size w (((w.alloc (.cells #[.slice A n c, .slice A' n' c'] 24)).alloc (.cells #[.int .i64 la, .int .u64 ca] 27)).alloc (.cells #[.int .i64 lb, .int .u64 cb] 27)) := (((Below.refl _ _).alloc (Nat.le_refl _) _).alloc (by simp) _).alloc (by simp; omega) _
  have hm1 := (hbw.cell (p := ⟨0, 0, none⟩) (by simpa using h0)).trans hm
  have haw := awakeM_any m _ hm1
  have hl1 := h1.len
  have hl2 := h2.len
  go_enter Tryd.func9, Tryd.ntmps9
  go_wp2_with fail
  refine haw.mono ?_
  rintro e w1 ⟨rfl, hb1⟩
  have a0 : w1.cell? ⟨w.heap.size, 0, none⟩ = some (.slice A n c) := by rw [hb1.cell (by simp; try omega)]; go_simp
  have a1 : w1.cell? ⟨w.heap.size, 1, none⟩ = some (.slice A' n' c') := by rw [hb1.cell (by simp; try omega)]; go_simp
  have b0 : w1.cell? ⟨w.heap.size + 1, 0, none⟩ = some (.int .i64 la) := by rw [hb1.cell (by simp; try omega)]; go_simp
  have b1 : w1.cell? ⟨w.heap.size + 1, 1, none⟩ = some (.int .u64 ca) := by rw [hb1.cell (by simp; try omega)]; go_simp
  have c0 : w1.cell? ⟨w.heap.size + 1 + 1, 0, none⟩ = some (.int .i64 lb) := by rw [hb1.cell (by simp)]; go_simp
  have c1 : w1.cell? ⟨w.heap.size + 1 + 1, 1, none⟩ = some (.int .u64 cb) := by rw [hb1.cell (by simp)]; go_simp
  have hz1 : w.heap.size + 3 ≤ w1.heap.size := by have := hb1.size; simp at this; omega
  have hbw1 : Below w.heap.size w w1 := hbw.trans (hb1.mono (by simp; omega))
  have s1 := h1.below (hbw1.mono hB)
  have s2 := h2.below (hbw1.mono hB)
  have mm := (hbw1.cell (p := ⟨0, 0, none⟩) (by simpa using h0)).trans hm
  have hK : Hid (∀ W, Below w1.heap.size w1 W → W.cell? ⟨w.heap.size, 0, none⟩ = some (.slice A n c) ∧ W.cell? ⟨w.heap.size, 1, none⟩ = some (.slice A' n' c') ∧ W.cell? ⟨w.heap.size + 1, 0, none⟩ = some (.int .i64 la) ∧ W.cell? ⟨w.heap.size + 1, 1, none⟩ = some (.int .u64 ca) ∧ W.cell? ⟨w.heap.size + 1 + 1, 0, none⟩ = some (.int .i64 lb) ∧ W.cell? ⟨w.heap.size + 1 + 1, 1, none⟩ = some (.int .u64 cb) ∧ Strs W B A n c ss ∧ Strs W B A' n' c' ss' ∧ W.cell? ⟨0, 0, none⟩ = some (.int .i64 m) ∧ Below w.heap.size w W) := Lib.hid fun W hb =>
    ⟨(hb.cell (p := ⟨w.heap.size, 0, none⟩) (by simp; omega)).trans a0, (hb.cell (p := ⟨w.heap.size, 1, none⟩) (by simp; omega)).trans a1, (hb.cell (p := ⟨w.heap.size + 1, 0, none⟩) (by simp; omega)).trans b0, (hb.cell (p := ⟨w.heap.size + 1, 1, none⟩) (by simp; omega)).trans b1,
      (hb.cell (p := ⟨w.heap.size + 1 + 1, 0, none⟩) (by simp; omega)).trans c0, (hb.cell (p := ⟨w.heap.size + 1 + 1, 1, none⟩) (by simp; omega)).trans c1, s1.below (hb.mono (by omega)), s2.below (hb.mono (by omega)), (hb.cell (p := ⟨0, 0, none⟩) (by simp; omega)).trans mm, hbw1.trans (hb.mono (by omega))⟩
  have Hsz := Lib.hid hsz
  have Hl1 := Lib.hid hl1
  have Hl2 := Lib.hid hl2
  clear hb1 hbw hm hm1 haw h1 h2 hbw1 mm hsz hl1 hl2
  go_wp2_with fail
  refine (few_any B n c n' c' A A' ss ss' w1 (by omega) s1 s2 Hsz.out).mono ?_
  rintro e w2 ⟨⟨b, rfl⟩, hb2⟩
  clear a0 a1 b0 b1 c0 c1 s1 s2
  obtain ⟨a0, a1, b0, b1, c0, c1, s1, s2, mm, hw2⟩ := hK.out _ hb2
  have hz2 := hb2.size
  cases b
  · go_wp2
    go_ret
    exact ⟨rfl, hw2⟩
  go_wp2_with fail
  refine (in_any B n c n' c' A A' ss ss' la ca w2 (by omega) s1 s2 Hsz.out).mono ?_
  rintro e w3 ⟨rfl, hb3⟩
  have hb3' := hb2.trans (hb3.mono hb2.size)
  have hz3 := hb3'.size
  clear a0 a1 b0 b1 c0 c1 s1 s2 mm hw2
  obtain ⟨a0, a1, b0, b1, c0, c1, s1, s2, mm, hw3⟩ := hK.out _ hb3'
  obtain ⟨x3, p1⟩ : ∃ x, (rightB ss ss' && hasB n n' la ca) = x := ⟨_, rfl⟩
  rw [p1]
  have Hp1 := Lib.hid p1
  clear p1
  cases x3
  · go_wp2
    go_ret
    exact ⟨rfl, hw3⟩
  go_wp2_with fail
  refine (in_any B n c n' c' A A' ss ss' lb cb w3 (by omega) s1 s2 Hsz.out).mono ?_
  rintro e w4 ⟨rfl, hb4⟩
  have hb4' := hb3'.trans (hb4.mono hb3'.size)
  have hz4 := hb4'.size
  clear a0 a1 b0 b1 c0 c1 s1 s2 mm hw3
  obtain ⟨a0, a1, b0, b1, c0, c1, s1, s2, mm, hw4⟩ := hK.out _ hb4'
  obtain ⟨x4, p2⟩ : ∃ x, (rightB ss ss' && hasB n n' lb cb) = x := ⟨_, rfl⟩
  rw [p2]
  have Hp2 := Lib.hid p2
  clear p2
  cases x4
  · go_wp2
    go_ret
    exact ⟨rfl, hw4⟩
  have hp1 := Hp1.out
  have hp2 := Hp2.out
  rw [Bool.and_eq_true, ← Hl1.out, ← Hl2.out] at hp1 hp2
  obtain ⟨hr, hh1⟩ := hp1
  obtain ⟨_, hh2⟩ := hp2
  obtain ⟨hA1, hA2, hA3, hA4⟩ := lined hr hc1.1 hc1.2 hh1
  obtain ⟨_, hB2, _, _⟩ := lined hr hc2.1 hc2.2 hh2
  have hiff := line_same hr hc1.1 hc1.2 hh1 hc2.1 hc2.2 hh2
  clear hr hh1 hh2 Hp1 Hp2
  generalize markW ++ textT ss ss' la ca = MA at hA1 hA2 hA3 hA4 hiff
  generalize markW ++ textT ss ss' lb cb = MB at hB2 hiff
  have hMs : (⟨MA.toArray⟩ : ByteArray).size < 4294967281 := by
    show MA.length < _
    omega
  have happ : (⟨(MA ++ [13, 10]).toArray⟩ : ByteArray) = ⟨MA.toArray⟩ ++ ⟨#[13, 10]⟩ := (bytes_app MA [13, 10]).symm
  obtain ⟨X, hX1, hX2⟩ : ∃ X : Bool, ((⟨MA.toArray⟩ : ByteArray).toList == (⟨MB.toArray⟩ : ByteArray).toList) = X ∧ ∀ W, (Op.equalIn 10000 27 (.agg #[.int .i64 la, .int .u64 ca]) (.agg #[.int .i64 lb, .int .u64 cb])).run Tryd.prog W = .ok X W := by
    by_cases h : la = lb ∧ ca = cb
    · exact ⟨true, by rw [hiff.2 h]; simp, fun W => by rw [eql_label, decide_eq_true h]⟩
    · refine ⟨false, bytes_ne fun e => h (hiff.1 (by simpa using e)), fun W => by rw [eql_label, decide_eq_false h]⟩
  have HA2 := Lib.hid hA2
  have HA3 := Lib.hid hA3
  have HA4 := Lib.hid hA4
  have HB2 := Lib.hid hB2
  have Happ := Lib.hid happ
  have HX1 := Lib.hid hX1
  have hql : ∀ W, (Op.equalIn 10000 27 (.agg #[.int .i64 la, .int .u64 ca]) (.agg #[.int .i64 la, .int .u64 ca])).run Tryd.prog W = .ok true W := fun W => by rw [eql_label, decide_eq_true ⟨rfl, rfl⟩]
  clear hA1 hA2 hA3 hA4 hB2 hiff happ hX1
  go_wp2_with fail
  refine (line_any B n c n' c' A A' ss ss' la ca w4 (by omega) s1 s2 Hsz.out).mono ?_
  rintro e w5 ⟨rfl, hb5⟩
  rw [HA2.out]
  have hb5' := hb4'.trans (hb5.mono hb4'.size)
  have hz5 := hb5'.size
  clear a0 a1 b0 b1 c0 c1 s1 s2 mm hw4
  obtain ⟨a0, a1, b0, b1, c0, c1, s1, s2, mm, hw5⟩ := hK.out _ hb5'
  go_wp2_with fail
  refine (line_any B n c n' c' A A' ss ss' lb cb w5 (by omega) s1 s2 Hsz.out).mono ?_
  rintro e w6 ⟨rfl, hb6⟩
  rw [HB2.out]
  have hb6' := hb5'.trans (hb6.mono hb5'.size)
  have hz6 := hb6'.size
  clear a0 a1 b0 b1 c0 c1 s1 s2 mm hw5
  obtain ⟨a0, a1, b0, b1, c0, c1, s1, s2, mm, hw6⟩ := hK.out _ hb6'
  go_wp2_with fail
  refine (read_any B n c n' c' A A' ss ss' ⟨MA.toArray⟩ m w6 (by omega) s1 s2 Hsz.out hMs mm).mono ?_
  rintro e w7 ⟨rfl, hb7⟩
  rw [show (⟨MA.toArray⟩ : ByteArray).data.toList = MA by simp, HA3.out]
  have hb7' := hb6'.trans (hb7.mono hb6'.size)
  have hz7 := hb7'.size
  have hb8' : Below w1.heap.size w1 (w7.alloc (.cells #[.int .i64 la, .int .u64 ca] 27)) := hb7'.alloc hz7 _
  have k0 : (w7.alloc (.cells #[.int .i64 la, .int .u64 ca] 27)).cell? ⟨w7.heap.size, 0, none⟩ = some (.int .i64 la) := by go_simp
  have k1 : (w7.alloc (.cells #[.int .i64 la, .int .u64 ca] 27)).cell? ⟨w7.heap.size, 1, none⟩ = some (.int .u64 ca) := by go_simp
  have hz8 : (w7.alloc (.cells #[.int .i64 la, .int .u64 ca] 27)).heap.size = w7.heap.size + 1 := by simp
  clear a0 a1 b0 b1 c0 c1 s1 s2 mm hw6
  obtain ⟨a0, a1, b0, b1, c0, c1, s1, s2, mm, hw8⟩ := hK.out _ hb8'
  go_wp2_with fail
  refine (mark_any B n c n' c' A A' ss ss' la ca ⟨#[]⟩ _ (by omega) s1 s2 Hsz.out (by decide)).mono ?_
  rintro e w9 ⟨rfl, hb9⟩
  rw [show (⟨#[]⟩ : ByteArray).data.toList = [] from rfl, HA4.out]
  simp only
  rw [Happ.out]
  have k2 := (hb9.cell (p := ⟨w7.heap.size, 0, none⟩) (by simp)).trans k0
  have k3 := (hb9.cell (p := ⟨w7.heap.size, 1, none⟩) (by simp)).trans k1
  have y9 : w7.heap.size < w9.heap.size := by have := hb9.size; omega
  clear k0 k1
  have hb9' := hb8'.trans (hb9.mono hb8'.size)
  have hz9 := hb9'.size
  clear a0 a1 b0 b1 c0 c1 s1 s2 mm hw8
  obtain ⟨a0, a1, b0, b1, c0, c1, s1, s2, mm, hw9⟩ := hK.out _ hb9'
  have hX3 := HX1.out
  generalize (⟨MB.toArray⟩ : ByteArray) = t2 at hX3 ⊢
  generalize (⟨MA.toArray⟩ : ByteArray) = t1 at hX3 hMs ⊢
  cases X
  all_goals
    go_wp2
    go_ret
    exact ⟨rfl, hw9⟩
end Go.Proofs.YtkjiaklpffnhlaaDoor
