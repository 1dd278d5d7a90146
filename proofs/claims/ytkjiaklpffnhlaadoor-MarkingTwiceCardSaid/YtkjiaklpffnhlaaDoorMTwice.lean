/-
  MarkingTwice returns true, for any lists of strings, any two labels and any text: the walk.
-/
import Derived.Test.YtkjiaklpffnhlaaDoorAwakeM
import Derived.Test.YtkjiaklpffnhlaaDoorIn
import Derived.Test.YtkjiaklpffnhlaaDoorFew
import Derived.Test.YtkjiaklpffnhlaaDoorMarkG
import Derived.Deep.RegionHeld3
namespace Go.Proofs.YtkjiaklpffnhlaaDoor
open Go.RowKit

set_option maxRecDepth 100000 in
set_option maxHeartbeats 8000000 in
theorem mtwice_walk (B n c n' c' : Nat) (A A' : Option Addr) (ss ss' : List ByteArray) (la ca lb cb m : Int) (s : ByteArray) (w : World) (hB : B ≤ w.heap.size) (h1 : Strs w B A n c ss) (h2 : Strs w B A' n' c' ss') (hsz : ∀ s ∈ ss ++ ss', s.size ≤ maxLen)
    (hm : w.cell? ⟨0, 0, none⟩ = some (.int .i64 m)) (hc1 : 0 ≤ ca ∧ ca < 18446744073709551616) (hc2 : 0 ≤ cb ∧ cb < 18446744073709551616) (hs : s.size ≤ maxLen) :
    Calls Tryd.prog 7 #[.agg #[.slice A n c, .slice A' n' c'], .agg #[.int .i64 la, .int .u64 ca], .agg #[.int .i64 lb, .int .u64 cb], .string s] w fun e w' => e = .returned (.bool true) ∧ Below w.heap.size w w' := by
  have hnot : ∀ (x : Bool) (w : World), (Op.unary .not (.bool x)).run Tryd.prog w = .ok (.bool (!x)) w := fun _ _ => rfl
  have h0 := lt_of_cell hm
  simp at h0
  have hbw : Below w.heap.size w (((w.alloc (.cells #[.slice A n c, .slice A' n' c'] 24)).alloc (.cells #[.int .i64 la, .int .u64 ca] 27)).alloc (.cells #[.int .i64 lb, .int .u64 cb] 27)) := (((Below.refl _ _).alloc (Nat.le_refl _) _).alloc (by simp) _).alloc (by simp; omega) _
  have hm1 := (hbw.cell (p := ⟨0, 0, none⟩) (by simpa using h0)).trans hm
  have haw := awakeM_any m _ hm1
  have hl1 := h1.len
  have hl2 := h2.len
  unfold maxLen at hs
  go_enter Tryd.func7, Tryd.ntmps7
  go_wp2_with fail
  refine haw.mono ?_
  rintro e w1 ⟨rfl, hb1⟩
  have a0 : w1.cell? ⟨w.heap.size, 0, none⟩ = some (.slice A n c) := by rw [hb1.cell (by simp; try omega)]; go_simp
  have a1 : w1.cell? ⟨w.heap.size, 1, none⟩ = some (.slice A' n' c') := by rw [hb1.cell (by simp; try omega)]; go_simp
  have b0 : w1.cell? ⟨w.heap.size + 1, 0, none⟩ = some (.int .i64 la) := by rw [hb1.cell (by simp; try omega)]; go_simp
  have b1 : w1.cell? ⟨w.heap.size + 1, 1, none⟩ = some (.int .u64 ca) := by rw [hb1.cell (by simp; try omega)]; go_simp
  have c0 : w1.cell? ⟨w.heap.size + 1 + 1, 0, none⟩ = some (.int .i64 lb) := by rw [hb1.cell (by simp)]; go_simp
  have c1 : w1.cell? ⟨w.heap.size + 1 + 1, 1, none⟩ = some (.int .u64 cb) := by rw [hb1.cell (by simp)]; go_simp
  have hz1 : w.heap.size + 3 ≤ w1.heap.size := by have := hb1.size; simp at this; omega
  have hbw1 : Below w.heap.size w w1 := hbw.trans (hb1.mono (by simp; omega))
  have s1 := h1.below (hbw1.mono hB)
  have s2 := h2.below (hbw1.mono hB)
  have mm := (hbw1.cell (p := ⟨0, 0, none⟩) (by simpa using h0)).trans hm
  have hK : Hid (∀ W, Below w1.heap.size w1 W → W.cell? ⟨w.heap.size, 0, none⟩ = some (.slice A n c) ∧ W.cell? ⟨w.heap.size, 1, none⟩ = some (.slice A' n' c') ∧ W.cell? ⟨w.heap.size + 1, 0, none⟩ = some (.int .i64 la) ∧ W.cell? ⟨w.heap.size + 1, 1, none⟩ = some (.int .u64 ca) ∧ W.cell? ⟨w.heap.size + 1 + 1, 0, none⟩ = some (.int .i64 lb) ∧ W.cell? ⟨w.heap.size + 1 + 1, 1, none⟩ = some (.int .u64 cb) ∧ Strs W B A n c ss ∧ Strs W B A' n' c' ss' ∧ W.cell? ⟨0, 0, none⟩ = some (.int .i64 m) ∧ Below w.heap.size w W) := Lib.hid fun W hb =>
    ⟨(hb.cell (p := ⟨w.heap.size, 0, none⟩) (by simp; omega)).trans a0, (hb.cell (p := ⟨w.heap.size, 1, none⟩) (by simp; omega)).trans a1, (hb.cell (p := ⟨w.heap.size + 1, 0, none⟩) (by simp; omega)).trans b0, (hb.cell (p := ⟨w.heap.size + 1, 1, none⟩) (by simp; omega)).trans b1,
      (hb.cell (p := ⟨w.heap.size + 1 + 1, 0, none⟩) (by simp; omega)).trans c0, (hb.cell (p := ⟨w.heap.size + 1 + 1, 1, none⟩) (by simp; omega)).trans c1, s1.below (hb.mono (by omega)), s2.below (hb.mono (by omega)), (hb.cell (p := ⟨0, 0, none⟩) (by simp; omega)).trans mm, hbw1.trans (hb.mono (by omega))⟩
  have Hsz := Lib.hid hsz
  have Hl1 := Lib.hid hl1
  have Hl2 := Lib.hid hl2
  clear hb1 hbw hm hm1 haw h1 h2 hbw1 mm hsz hl1 hl2
  go_wp2_with fail
  refine (few_any B n c n' c' A A' ss ss' w1 (by omega) s1 s2 Hsz.out).mono ?_
  rintro e w2 ⟨⟨b, rfl⟩, hb2⟩
  clear a0 a1 b0 b1 c0 c1 s1 s2
  obtain ⟨a0, a1, b0, b1, c0, c1, s1, s2, mm, hw2⟩ := hK.out _ hb2
  have hz2 := hb2.size
  cases b
  · go_wp2
    go_ret
    exact ⟨rfl, hw2⟩
  by_cases h3 : s.size ≤ 5000
  case neg =>
    go_wp2
    go_ret
    exact ⟨rfl, hw2⟩
  go_wp2_with fail
  refine (in_any B n c n' c' A A' ss ss' la ca w2 (by omega) s1 s2 Hsz.out).mono ?_
  rintro e w3 ⟨rfl, hb3⟩
  have hb3' := hb2.trans (hb3.mono hb2.size)
  have hz3 := hb3'.size
  clear a0 a1 b0 b1 c0 c1 s1 s2 mm hw2
  obtain ⟨a0, a1, b0, b1, c0, c1, s1, s2, mm, hw3⟩ := hK.out _ hb3'
  obtain ⟨x3, p1⟩ : ∃ x, (rightB ss ss' && hasB n n' la ca) = x := ⟨_, rfl⟩
  rw [p1]
  have Hp1 := Lib.hid p1
  clear p1
  cases x3
  · go_wp2
    go_ret
    exact ⟨rfl, hw3⟩
  go_wp2_with fail
  refine (in_any B n c n' c' A A' ss ss' lb cb w3 (by omega) s1 s2 Hsz.out).mono ?_
  rintro e w4 ⟨rfl, hb4⟩
  have hb4' := hb3'.trans (hb4.mono hb3'.size)
  have hz4 := hb4'.size
  clear a0 a1 b0 b1 c0 c1 s1 s2 mm hw3
  obtain ⟨a0, a1, b0, b1, c0, c1, s1, s2, mm, hw4⟩ := hK.out _ hb4'
  obtain ⟨x4, p2⟩ : ∃ x, (rightB ss ss' && hasB n n' lb cb) = x := ⟨_, rfl⟩
  rw [p2]
  have Hp2 := Lib.hid p2
  clear p2
  cases x4
  · go_wp2
    go_ret
    exact ⟨rfl, hw4⟩
  have hp1 := Hp1.out
  have hp2 := Hp2.out
  rw [Bool.and_eq_true, ← Hl1.out, ← Hl2.out] at hp1 hp2
  obtain ⟨hr, hh1⟩ := hp1
  obtain ⟨_, hh2⟩ := hp2
  obtain ⟨M1, hA1, hA2, hA3, _⟩ := marked hr hc1.1 hc1.2 hh1 s
  have hd1 : (⟨M1.toArray⟩ : ByteArray).data.toList = M1 := by simp
  have hsz1 : (⟨M1.toArray⟩ : ByteArray).size ≤ 6176 := by
    show M1.length ≤ _
    omega
  obtain ⟨M2, hB1, hB2, hB3, hB4⟩ := marked hr hc2.1 hc2.2 hh2 ⟨M1.toArray⟩
  rw [hd1] at hB2
  have hB5 := hB4 lb cb
  rw [dom_self lb cb hc2.1 hc2.2, if_pos rfl] at hB5
  have hsz2 : (⟨M2.toArray⟩ : ByteArray).size < 4294967281 := by
    show M2.length < _
    omega
  have hbl : checkB ss ss' (maxI la lb) (bits .or .u64 ca cb) ((⟨#[32]⟩ : ByteArray) ++ ⟨M1.toArray⟩).data.toList = 11 := by
    rw [show ((⟨#[32]⟩ : ByteArray) ++ ⟨M1.toArray⟩).data.toList = 32 :: M1 by rw [show (⟨#[32]⟩ : ByteArray) = ⟨([32] : List UInt8).toArray⟩ from rfl, bytes_app]; simp]
    unfold checkB
    rw [read_blank hr]
    rfl
  have hszb : ((⟨#[32]⟩ : ByteArray) ++ ⟨M1.toArray⟩).size < 4294967281 := by
    rw [ByteArray.size_append]
    have : (⟨#[32]⟩ : ByteArray).size = 1 := rfl
    omega
  have HA2 := Lib.hid hA2
  have HA3 := Lib.hid hA3
  have HB2 := Lib.hid hB2
  have HB3 := Lib.hid hB3
  have HB5 := Lib.hid hB5
  have Hbl := Lib.hid hbl
  have Hszb := Lib.hid hszb
  have hql : ∀ l k W, (Op.equalIn 10000 27 (.agg #[.int .i64 l, .int .u64 k]) (.agg #[.int .i64 l, .int .u64 k])).run Tryd.prog W = .ok true W := fun l k W => by rw [eql_label, decide_eq_true ⟨rfl, rfl⟩]
  have hqa := hql la ca
  have hqb := hql lb cb
  clear hA1 hA2 hA3 hB1 hB2 hB3 hB4 hB5 hbl hszb hd1 hr hh1 hh2 Hp1 Hp2 hql
  go_wp2_with fail
  refine (mark_any B n c n' c' A A' ss ss' la ca s w4 (by omega) s1 s2 Hsz.out (by omega)).mono ?_
  rintro e w5 ⟨rfl, hb5⟩
  rw [HA2.out]
  have hb5' := hb4'.trans (hb5.mono hb4'.size)
  have hz5 := hb5'.size
  clear a0 a1 b0 b1 c0 c1 s1 s2 mm hw4
  obtain ⟨a0, a1, b0, b1, c0, c1, s1, s2, mm, hw5⟩ := hK.out _ hb5'
  go_wp2_with fail
  refine (mark_any B n c n' c' A A' ss ss' lb cb ⟨M1.toArray⟩ w5 (by omega) s1 s2 Hsz.out (by omega)).mono ?_
  rintro e w6 ⟨rfl, hb6⟩
  rw [show (⟨M1.toArray⟩ : ByteArray).data.toList = M1 by simp, HB2.out]
  have hb6' := hb5'.trans (hb6.mono hb5'.size)
  have hz6 := hb6'.size
  clear a0 a1 b0 b1 c0 c1 s1 s2 mm hw5
  obtain ⟨a0, a1, b0, b1, c0, c1, s1, s2, mm, hw6⟩ := hK.out _ hb6'
  go_wp2_with fail
  refine (read_any B n c n' c' A A' ss ss' ⟨M2.toArray⟩ m w6 (by omega) s1 s2 Hsz.out hsz2 mm).mono ?_
  rintro e w7 ⟨rfl, hb7⟩
  rw [show (⟨M2.toArray⟩ : ByteArray).data.toList = M2 by simp, HB3.out]
  have hb7' := hb6'.trans (hb7.mono hb6'.size)
  have hz7 := hb7'.size
  have hb8' : Below w1.heap.size w1 (w7.alloc (.cells #[.int .i64 lb, .int .u64 cb] 27)) := hb7'.alloc hz7 _
  have k0 : (w7.alloc (.cells #[.int .i64 lb, .int .u64 cb] 27)).cell? ⟨w7.heap.size, 0, none⟩ = some (.int .i64 lb) := by go_simp
  have k1 : (w7.alloc (.cells #[.int .i64 lb, .int .u64 cb] 27)).cell? ⟨w7.heap.size, 1, none⟩ = some (.int .u64 cb) := by go_simp
  have hz8 : (w7.alloc (.cells #[.int .i64 lb, .int .u64 cb] 27)).heap.size = w7.heap.size + 1 := by simp
  clear a0 a1 b0 b1 c0 c1 s1 s2 mm hw6
  obtain ⟨a0, a1, b0, b1, c0, c1, s1, s2, mm, hw8⟩ := hK.out _ hb8'
  go_wp2_with fail
  refine (read_any B n c n' c' A A' ss ss' ⟨M1.toArray⟩ m _ (by omega) s1 s2 Hsz.out (by omega) mm).mono ?_
  rintro e w9 ⟨rfl, hb9⟩
  rw [show (⟨M1.toArray⟩ : ByteArray).data.toList = M1 by simp, HA3.out]
  have k2 := (hb9.cell (p := ⟨w7.heap.size, 0, none⟩) (by simp)).trans k0
  have k3 := (hb9.cell (p := ⟨w7.heap.size, 1, none⟩) (by simp)).trans k1
  have y9 : w7.heap.size < w9.heap.size := by have := hb9.size; omega
  clear k0 k1
  have hb9' := hb8'.trans (hb9.mono hb8'.size)
  have hz9 := hb9'.size
  have hb10' : Below w1.heap.size w1 (w9.alloc (.cells #[.int .i64 la, .int .u64 ca] 27)) := hb9'.alloc hz9 _
  clear a0 a1 b0 b1 c0 c1 s1 s2 mm hw8
  obtain ⟨a0, a1, b0, b1, c0, c1, s1, s2, mm, hw10⟩ := hK.out _ hb10'
  have k4 : (w9.alloc (.cells #[.int .i64 la, .int .u64 ca] 27)).cell? ⟨w7.heap.size, 0, none⟩ = some (.int .i64 lb) := by go_simp
  have k5 : (w9.alloc (.cells #[.int .i64 la, .int .u64 ca] 27)).cell? ⟨w7.heap.size, 1, none⟩ = some (.int .u64 cb) := by go_simp
  go_wp2_with fail
  have hzv := hb10'.size
  clear hK k2 k3 k4 k5 hb7 hb9 hb7' hb9' hb8' HA2 HA3 HB2 HB3
  revert a0 a1 b0 b1 c0 c1 s1 s2 mm hw10 hb10' hzv
  generalize (w9.alloc (.cells #[.int .i64 la, .int .u64 ca] 27)) = v
  intro hb10' a0 a1 b0 b1 c0 c1 s1 s2 mm hw10 hzv
  have hK2 : Hid (∀ W, Below v.heap.size v W → (fun W => W.cell? ⟨w.heap.size, 0, none⟩ = some (.slice A n c) ∧ W.cell? ⟨w.heap.size, 1, none⟩ = some (.slice A' n' c') ∧ W.cell? ⟨w.heap.size + 1, 0, none⟩ = some (.int .i64 la) ∧ W.cell? ⟨w.heap.size + 1, 1, none⟩ = some (.int .u64 ca) ∧ W.cell? ⟨w.heap.size + 1 + 1, 0, none⟩ = some (.int .i64 lb) ∧ W.cell? ⟨w.heap.size + 1 + 1, 1, none⟩ = some (.int .u64 cb) ∧ Below v.heap.size v W) W) := Lib.hid fun W hb =>
    ⟨(hb.cell (p := ⟨w.heap.size, 0, none⟩) (by simp; omega)).trans a0, (hb.cell (p := ⟨w.heap.size, 1, none⟩) (by simp; omega)).trans a1, (hb.cell (p := ⟨w.heap.size + 1, 0, none⟩) (by simp; omega)).trans b0, (hb.cell (p := ⟨w.heap.size + 1, 1, none⟩) (by simp; omega)).trans b1,
      (hb.cell (p := ⟨w.heap.size + 1 + 1, 0, none⟩) (by simp; omega)).trans c0, (hb.cell (p := ⟨w.heap.size + 1 + 1, 1, none⟩) (by simp; omega)).trans c1, hb⟩
  have hJ : Hid (∀ (l k l' k' : Int) (W : World), (fun W => W.cell? ⟨w.heap.size, 0, none⟩ = some (.slice A n c) ∧ W.cell? ⟨w.heap.size, 1, none⟩ = some (.slice A' n' c') ∧ W.cell? ⟨w.heap.size + 1, 0, none⟩ = some (.int .i64 la) ∧ W.cell? ⟨w.heap.size + 1, 1, none⟩ = some (.int .u64 ca) ∧ W.cell? ⟨w.heap.size + 1 + 1, 0, none⟩ = some (.int .i64 lb) ∧ W.cell? ⟨w.heap.size + 1 + 1, 1, none⟩ = some (.int .u64 cb) ∧ Below v.heap.size v W) W → Calls Tryd.prog 22 #[.agg #[.int .i64 l, .int .u64 k], .agg #[.int .i64 l', .int .u64 k']] W fun e V => e = .returned (.agg #[.int .i64 (maxI l l'), .int .u64 (bits .or .u64 k k')]) ∧ (fun W => W.cell? ⟨w.heap.size, 0, none⟩ = some (.slice A n c) ∧ W.cell? ⟨w.heap.size, 1, none⟩ = some (.slice A' n' c') ∧ W.cell? ⟨w.heap.size + 1, 0, none⟩ = some (.int .i64 la) ∧ W.cell? ⟨w.heap.size + 1, 1, none⟩ = some (.int .u64 ca) ∧ W.cell? ⟨w.heap.size + 1 + 1, 0, none⟩ = some (.int .i64 lb) ∧ W.cell? ⟨w.heap.size + 1 + 1, 1, none⟩ = some (.int .u64 cb) ∧ Below v.heap.size v W) V) := Lib.hid fun l k l' k' W hW =>
    (join_any l k l' k' W).mono fun e V ⟨he, hb⟩ => ⟨he, hK2.out _ (hW.2.2.2.2.2.2.trans (hb.mono hW.2.2.2.2.2.2.size))⟩
  have hC : Hid (∀ (l k : Int) (t : ByteArray) (W : World), (fun W => W.cell? ⟨w.heap.size, 0, none⟩ = some (.slice A n c) ∧ W.cell? ⟨w.heap.size, 1, none⟩ = some (.slice A' n' c') ∧ W.cell? ⟨w.heap.size + 1, 0, none⟩ = some (.int .i64 la) ∧ W.cell? ⟨w.heap.size + 1, 1, none⟩ = some (.int .u64 ca) ∧ W.cell? ⟨w.heap.size + 1 + 1, 0, none⟩ = some (.int .i64 lb) ∧ W.cell? ⟨w.heap.size + 1 + 1, 1, none⟩ = some (.int .u64 cb) ∧ Below v.heap.size v W) W → t.size < 4294967281 → Calls Tryd.prog 33 #[.agg #[.slice A n c, .slice A' n' c'], .agg #[.int .i64 l, .int .u64 k], .string t] W fun e V => e = .returned (.int .i64 (checkB ss ss' l k t.data.toList)) ∧ (fun W => W.cell? ⟨w.heap.size, 0, none⟩ = some (.slice A n c) ∧ W.cell? ⟨w.heap.size, 1, none⟩ = some (.slice A' n' c') ∧ W.cell? ⟨w.heap.size + 1, 0, none⟩ = some (.int .i64 la) ∧ W.cell? ⟨w.heap.size + 1, 1, none⟩ = some (.int .u64 ca) ∧ W.cell? ⟨w.heap.size + 1 + 1, 0, none⟩ = some (.int .i64 lb) ∧ W.cell? ⟨w.heap.size + 1 + 1, 1, none⟩ = some (.int .u64 cb) ∧ Below v.heap.size v W) V) := Lib.hid fun l k t W hW ht =>
    (check_any_m B n c n' c' A A' ss ss' l k t m W (by have := hW.2.2.2.2.2.2.size; omega) (s1.below (hW.2.2.2.2.2.2.mono (by omega))) (s2.below (hW.2.2.2.2.2.2.mono (by omega))) Hsz.out ht ((hW.2.2.2.2.2.2.cell (p := ⟨0, 0, none⟩) (by simp; omega)).trans mm)).mono fun e V ⟨he, hb⟩ => ⟨he, hK2.out _ (hW.2.2.2.2.2.2.trans (hb.mono hW.2.2.2.2.2.2.size))⟩
  have hDr : Hid (∀ W, (fun W => W.cell? ⟨w.heap.size, 0, none⟩ = some (.slice A n c) ∧ W.cell? ⟨w.heap.size, 1, none⟩ = some (.slice A' n' c') ∧ W.cell? ⟨w.heap.size + 1, 0, none⟩ = some (.int .i64 la) ∧ W.cell? ⟨w.heap.size + 1, 1, none⟩ = some (.int .u64 ca) ∧ W.cell? ⟨w.heap.size + 1 + 1, 0, none⟩ = some (.int .i64 lb) ∧ W.cell? ⟨w.heap.size + 1 + 1, 1, none⟩ = some (.int .u64 cb) ∧ Below v.heap.size v W) W → (fun W => W.cell? ⟨w.heap.size, 0, none⟩ = some (.slice A n c) ∧ W.cell? ⟨w.heap.size, 1, none⟩ = some (.slice A' n' c') ∧ W.cell? ⟨w.heap.size + 1, 0, none⟩ = some (.int .i64 la) ∧ W.cell? ⟨w.heap.size + 1, 1, none⟩ = some (.int .u64 ca) ∧ W.cell? ⟨w.heap.size + 1 + 1, 0, none⟩ = some (.int .i64 lb) ∧ W.cell? ⟨w.heap.size + 1 + 1, 1, none⟩ = some (.int .u64 cb) ∧ Below v.heap.size v W) W.drew) := Lib.hid fun W hW => hK2.out _ hW.2.2.2.2.2.2.drew
  have hS1 := hK2.out _ (Below.refl _ v)
  have Hsz2 := Lib.hid hsz2
  clear a0 a1 b0 b1 c0 c1
  generalize (⟨M1.toArray⟩ : ByteArray) = t1 at hsz1 Hbl Hszb ⊢
  have hlt1 : ¬ (9223372036854775807 < (⟨#[32]⟩ : ByteArray).size + t1.size) := by
    have : (⟨#[32]⟩ : ByteArray).size = 1 := rfl
    omega
  have hlt2 : ¬ (9223372036854775807 < 1 + t1.size) := by omega
  have hlt3 : ¬ (9223372036854775807 < t1.size + 1) := by omega
  go_region_held3 (fun W => W.cell? ⟨w.heap.size, 0, none⟩ = some (.slice A n c) ∧ W.cell? ⟨w.heap.size, 1, none⟩ = some (.slice A' n' c') ∧ W.cell? ⟨w.heap.size + 1, 0, none⟩ = some (.int .i64 la) ∧ W.cell? ⟨w.heap.size + 1, 1, none⟩ = some (.int .u64 ca) ∧ W.cell? ⟨w.heap.size + 1 + 1, 0, none⟩ = some (.int .i64 lb) ∧ W.cell? ⟨w.heap.size + 1 + 1, 1, none⟩ = some (.int .u64 cb) ∧ Below v.heap.size v W)
    (first | assumption | exact hDr.out _ (by assumption) | (trace_state; fail))
    (first
      | (go_at_call 22; refine (hJ.out _ _ _ _ _ ?_).mono ?_; assumption; rintro e w11 ⟨rfl, hS8⟩)
      | (go_at_call 33; refine (hC.out _ _ _ _ ?_ (by first | exact Hszb.out | exact Hsz2.out)).mono ?_; assumption; rintro e w11 ⟨rfl, hS8⟩; (first | rw [Hbl.out] | rw [show (⟨M2.toArray⟩ : ByteArray).data.toList = M2 by simp, HB5.out])))
  all_goals
    rename_i w12 hS3
    have hw12 := hw10.trans (hS3.2.2.2.2.2.2.mono (by omega))
    go_wp2
    go_ret
    exact ⟨rfl, hw12⟩
end Go.Proofs.YtkjiaklpffnhlaaDoor
