/-
  LatticeBack returns true, for any lists of strings, any two labels and any text, in any memory that holds the length bound of the string search: the walk.
-/
import Derived.Test.YtkjiaklpffnhlaaDoorBackH
import Derived.Test.YtkjiaklpffnhlaaDoorIn
import Derived.Test.YtkjiaklpffnhlaaDoorFew
import Derived.Test.YtkjiaklpffnhlaaDoorAwake
import Derived.Test.YtkjiaklpffnhlaaDoorEql
import Derived.Deep.RegionHeld3
namespace Go.Proofs.YtkjiaklpffnhlaaDoor
open Go.RowKit

theorem bytes_self (s : ByteArray) : (⟨s.data.toList.toArray⟩ : ByteArray) = s := by
  cases s with
  | mk d => simp
theorem bytes_beq (s : ByteArray) : (s.toList == s.toList) = true := by simp

set_option maxRecDepth 100000 in
set_option maxHeartbeats 8000000 in
/-- The last region: what was parsed is the label, and joins and meets are of the lattice. -/
theorem back_walk (B n c n' c' : Nat) (A A' : Option Addr) (ss ss' : List ByteArray) (la ca lb cb m : Int) (s : ByteArray) (w : World) (hB : B ≤ w.heap.size) (h1 : Strs w B A n c ss) (h2 : Strs w B A' n' c' ss') (hsz : ∀ s ∈ ss ++ ss', s.size ≤ maxLen)
    (hm : w.cell? ⟨0, 0, none⟩ = some (.int .i64 m)) (hc1 : 0 ≤ ca ∧ ca < 18446744073709551616) (hc2 : 0 ≤ cb ∧ cb < 18446744073709551616) (hs : s.size ≤ maxLen) :
    Calls Tryd.prog 4 #[.agg #[.slice A n c, .slice A' n' c'], .agg #[.int .i64 la, .int .u64 ca], .agg #[.int .i64 lb, .int .u64 cb], .string s] w fun e w' => e = .returned (.bool true) ∧ Below w.heap.size w w' := by
  have hnot : ∀ (x : Bool) (w : World), (Op.unary .not (.bool x)).run Tryd.prog w = .ok (.bool (!x)) w := fun _ _ => rfl
  have h0 := lt_of_cell hm
  simp at h0
  have hbw : Below w.heap.size w (((w.alloc (.cells #[.slice A n c, .slice A' n' c'] 24)).alloc (.cells #[.int .i64 la, .int .u64 ca] 27)).alloc (.cells #[.int .i64 lb, .int .u64 cb] 27)) := (((Below.refl _ _).alloc (Nat.le_refl _) _).alloc (by simp) _).alloc (by simp; omega) _
  have hm1 := (hbw.cell (p := ⟨0, 0, none⟩) (by simpa using h0)).trans hm
  have haw := awake_any m _ hm1
  have hl1 := h1.len
  have hl2 := h2.len
  unfold maxLen at hs
  go_enter Tryd.func4, Tryd.ntmps4
  go_wp2_with fail
  refine haw.mono ?_
  rintro e w1 ⟨rfl, hb1⟩
  have a0 : w1.cell? ⟨w.heap.size, 0, none⟩ = some (.slice A n c) := by rw [hb1.cell (by simp; try omega)]; go_simp
  have a1 : w1.cell? ⟨w.heap.size, 1, none⟩ = some (.slice A' n' c') := by rw [hb1.cell (by simp; try omega)]; go_simp
  have b0 : w1.cell? ⟨w.heap.size + 1, 0, none⟩ = some (.int .i64 la) := by rw [hb1.cell (by simp; try omega)]; go_simp
  have b1 : w1.cell? ⟨w.heap.size + 1, 1, none⟩ = some (.int .u64 ca) := by rw [hb1.cell (by simp; try omega)]; go_simp
  have c0 : w1.cell? ⟨w.heap.size + 1 + 1, 0, none⟩ = some (.int .i64 lb) := by rw [hb1.cell (by simp)]; go_simp
  have c1 : w1.cell? ⟨w.heap.size + 1 + 1, 1, none⟩ = some (.int .u64 cb) := by rw [hb1.cell (by simp)]; go_simp
  have hz1 : w.heap.size + 3 ≤ w1.heap.size := by have := hb1.size; simp at this; omega
  have hbw1 : Below w.heap.size w w1 := hbw.trans (hb1.mono (by simp; omega))
  have s1 := h1.below (hbw1.mono hB)
  have s2 := h2.below (hbw1.mono hB)
  have mm := (hbw1.cell (p := ⟨0, 0, none⟩) (by simpa using h0)).trans hm
  have hK : Hid (∀ W, Below w1.heap.size w1 W → W.cell? ⟨w.heap.size, 0, none⟩ = some (.slice A n c) ∧ W.cell? ⟨w.heap.size, 1, none⟩ = some (.slice A' n' c') ∧ W.cell? ⟨w.heap.size + 1, 0, none⟩ = some (.int .i64 la) ∧ W.cell? ⟨w.heap.size + 1, 1, none⟩ = some (.int .u64 ca) ∧ W.cell? ⟨w.heap.size + 1 + 1, 0, none⟩ = some (.int .i64 lb) ∧ W.cell? ⟨w.heap.size + 1 + 1, 1, none⟩ = some (.int .u64 cb) ∧ Strs W B A n c ss ∧ Strs W B A' n' c' ss' ∧ W.cell? ⟨0, 0, none⟩ = some (.int .i64 m) ∧ Below w.heap.size w W) := Lib.hid fun W hb =>
    ⟨(hb.cell (p := ⟨w.heap.size, 0, none⟩) (by simp; omega)).trans a0, (hb.cell (p := ⟨w.heap.size, 1, none⟩) (by simp; omega)).trans a1, (hb.cell (p := ⟨w.heap.size + 1, 0, none⟩) (by simp; omega)).trans b0, (hb.cell (p := ⟨w.heap.size + 1, 1, none⟩) (by simp; omega)).trans b1,
      (hb.cell (p := ⟨w.heap.size + 1 + 1, 0, none⟩) (by simp; omega)).trans c0, (hb.cell (p := ⟨w.heap.size + 1 + 1, 1, none⟩) (by simp; omega)).trans c1, s1.below (hb.mono (by omega)), s2.below (hb.mono (by omega)), (hb.cell (p := ⟨0, 0, none⟩) (by simp; omega)).trans mm, hbw1.trans (hb.mono (by omega))⟩
  clear hb1 hbw hm hm1 haw h1 h2 hbw1 mm
  go_wp2_with fail
  refine (few_any B n c n' c' A A' ss ss' w1 (by omega) s1 s2 hsz).mono ?_
  rintro e w2 ⟨⟨b, rfl⟩, hb2⟩
  clear a0 a1 b0 b1 c0 c1 s1 s2
  obtain ⟨a0, a1, b0, b1, c0, c1, s1, s2, mm, hw2⟩ := hK.out _ hb2
  have hz2 := hb2.size
  cases b
  · go_wp2
    go_ret
    exact ⟨rfl, hw2⟩
  by_cases h3 : s.size ≤ 3000
  case neg =>
    go_wp2
    go_ret
    exact ⟨rfl, hw2⟩
  go_wp2_with fail
  refine (right_any B n c n' c' A A' ss ss' w2 (by omega) s1 s2 hsz).mono ?_
  rintro e w3 ⟨rfl, hb3⟩
  have hb3' := hb2.trans (hb3.mono hz2)
  have hz3 := hb3'.size
  clear a0 a1 b0 b1 c0 c1 s1 s2 mm
  obtain ⟨a0, a1, b0, b1, c0, c1, s1, s2, mm, hw3⟩ := hK.out _ hb3'
  cases hr : rightB ss ss'
  · clear hr
    go_wp2
    go_ret
    exact ⟨rfl, hw3⟩
  have Hr := Lib.hid hr
  have hc64 := right_comps hr
  have Hpp : Hid (∀ L k, parseB ss ss' s.data.toList = some (L, k) → printB ss ss' L k = (s.data.toList, 0) ∧ (rightB ss ss' && hasB n n' L k) = true) := Lib.hid fun L k h => by
    unfold parseB at h
    rw [if_pos hr] at h
    obtain ⟨ht, hh, _, _⟩ := text_parse hc64 _ L k h
    constructor
    · unfold printB; rw [if_pos hr, if_pos hh, ht]
    · rw [hr, ← hl1, ← hl2, hh]; rfl
  have Hsz := Lib.hid hsz
  have Hl1 := Lib.hid hl1
  have Hl2 := Lib.hid hl2
  clear hr hsz hl1 hl2 hb2 hb3 hw2
  go_wp2_with fail
  refine (parse_any B n c n' c' A A' ss ss' s m w3 (by omega) s1 s2 Hsz.out (by omega) mm).mono ?_
  rintro e w4 ⟨rfl, hb4⟩
  have hb4' := hb3'.trans (hb4.mono hz3)
  have hz4 := hb4'.size
  clear a0 a1 b0 b1 c0 c1 s1 s2 mm hb3' hb4
  obtain ⟨a0, a1, b0, b1, c0, c1, s1, s2, mm, hw4⟩ := hK.out _ hb4'
  have Hpa : Hid ((printB ss ss' la ca = (textT ss ss' la ca, 0) ∧ (rightB ss ss' && hasB n n' la ca) = true ∧ parseV (parseB ss ss' (textT ss ss' la ca)) = .tuple #[.agg #[.int .i64 la, .int .u64 ca], .int .i64 0] ∧ (⟨(textT ss ss' la ca).toArray⟩ : ByteArray).size < 4294967281) ∨ (printB ss ss' la ca = ([], 8) ∧ (rightB ss ss' && hasB n n' la ca) = false)) := Lib.hid (by
    rcases print_cases ss ss' la ca with ⟨hp, hr1, hh⟩ | ⟨hp, hr1, hh⟩ | ⟨hp, hr1⟩
    · refine .inl ⟨hp, by rw [hr1, ← Hl1.out, ← Hl2.out, hh]; rfl, ?_, ?_⟩
      · have h0 : 0 ≤ la := by unfold hasB at hh; simp only [Bool.and_eq_true, decide_eq_true_eq] at hh; exact hh.1.1
        unfold parseB
        rw [if_pos hr1, parse_text hr1 hc1.1 hc1.2 hh, parseV, Int.toNat_of_nonneg h0]
      · have := text_short hr1 la ca
        show (textT ss ss' la ca).length < _
        omega
    · exact .inr ⟨hp, by rw [hr1, ← Hl1.out, ← Hl2.out, hh]; rfl⟩
    · rw [Hr.out] at hr1; cases hr1)
  have Hjm : Hid (∀ x, (rightB ss ss' && hasB n n' la ca) = true → (rightB ss ss' && hasB n n' lb cb) = x → x = true → (rightB ss ss' && hasB n n' (maxI la lb) (bits .or .u64 ca cb)) = true ∧ (rightB ss ss' && hasB n n' (minI la lb) (bits .and .u64 ca cb)) = true) := Lib.hid (by
    intro x ha hb hx
    rw [← hb, Hr.out, Bool.true_and] at hx
    rw [Hr.out, Bool.true_and] at ha
    rw [Hr.out, Bool.true_and, Bool.true_and]
    have h64 : n' ≤ 64 := by rw [← Hl2.out]; exact hc64
    exact ⟨has_join h64 hc1.1 hc1.2 hc2.1 hc2.2 ha hx, has_meet h64 hc1.1 hc1.2 hc2.1 hc2.2 ha hx⟩)
  clear hc64
  obtain ⟨r, hrr⟩ : ∃ r, parseB ss ss' s.data.toList = r := ⟨_, rfl⟩
  rcases r with _ | ⟨L, k⟩
  · rw [hrr]
    simp only [parseV]
    clear hrr Hpp
    have hbT : Below w1.heap.size w1 (w4.alloc (.cells #[.int .i64 0, .int .u64 0] 27)) := hb4'.alloc hz4 _
    have hzT := hbT.size
    clear a0 a1 b0 b1 c0 c1 s1 s2 mm hw4
    obtain ⟨a0, a1, b0, b1, c0, c1, s1, s2, mm, hwT⟩ := hK.out _ hbT
    go_wp2_with fail
    refine (print_any B n c n' c' A A' ss ss' la ca _ (by omega) s1 s2 Hsz.out).mono ?_
    rintro e wp ⟨rfl, hbp⟩
    have hbp' := hbT.trans (hbp.mono hzT)
    have hzp := hbp'.size
    clear a0 a1 b0 b1 c0 c1 s1 s2 mm hwT
    obtain ⟨a0, a1, b0, b1, c0, c1, s1, s2, mm, hwp⟩ := hK.out _ hbp'
    rcases Hpa.out with ⟨hpa, hha, hpv, hts⟩ | ⟨hpa, hha⟩
    · rw [hpa]
      have Hha := Lib.hid hha
      have Hpv := Lib.hid hpv
      clear hpa hha hpv
      go_wp2_with fail
      refine (parse_any B n c n' c' A A' ss ss' ⟨(textT ss ss' la ca).toArray⟩ m wp (by omega) s1 s2 Hsz.out hts mm).mono ?_
      rintro e w7 ⟨rfl, hb7⟩
      rw [show (⟨(textT ss ss' la ca).toArray⟩ : ByteArray).data.toList = textT ss ss' la ca by simp, Hpv.out]
      have hb7' := hbp'.trans (hb7.mono hzp)
      have hbv : Below w1.heap.size w1 (w7.alloc (.cells #[.int .i64 la, .int .u64 ca] 27)) := hb7'.alloc hb7'.size _
      have p0 : (w7.alloc (.cells #[.int .i64 la, .int .u64 ca] 27)).cell? ⟨w7.heap.size, 0, none⟩ = some (.int .i64 la) := by go_simp
      have p1 : (w7.alloc (.cells #[.int .i64 la, .int .u64 ca] 27)).cell? ⟨w7.heap.size, 1, none⟩ = some (.int .u64 ca) := by go_simp
      have hzv : (w7.alloc (.cells #[.int .i64 la, .int .u64 ca] 27)).heap.size = w7.heap.size + 1 := by simp
      clear a0 a1 b0 b1 c0 c1 s1 s2 mm hwp
      obtain ⟨a0, a1, b0, b1, c0, c1, s1, s2, mm, hwv⟩ := hK.out _ hbv
      go_wp2_with fail
      clear hK Hpv Hpa
      revert hbv p0 p1 hzv a0 a1 b0 b1 c0 c1 s1 s2 mm hwv
      generalize (w7.alloc (.cells #[.int .i64 la, .int .u64 ca] 27)) = v
      intro hbv p0 p1 hzv a0 a1 b0 b1 c0 c1 s1 s2 mm hwv
      have hz7 := hb7'.size
      have hK : Hid (∀ W, Below v.heap.size v W → (fun W => W.cell? ⟨w.heap.size + 1, 0, none⟩ = some (.int .i64 la) ∧ W.cell? ⟨w.heap.size + 1, 1, none⟩ = some (.int .u64 ca) ∧ W.cell? ⟨w.heap.size + 1 + 1, 0, none⟩ = some (.int .i64 lb) ∧ W.cell? ⟨w.heap.size + 1 + 1, 1, none⟩ = some (.int .u64 cb) ∧ W.cell? ⟨w.heap.size, 0, none⟩ = some (.slice A n c) ∧ W.cell? ⟨w.heap.size, 1, none⟩ = some (.slice A' n' c') ∧ W.cell? ⟨w7.heap.size, 0, none⟩ = some (.int .i64 la) ∧ W.cell? ⟨w7.heap.size, 1, none⟩ = some (.int .u64 ca) ∧ Below v.heap.size v W) W) := Lib.hid fun W hb =>
        ⟨(hb.cell (p := ⟨w.heap.size + 1, 0, none⟩) (by simp; omega)).trans b0, (hb.cell (p := ⟨w.heap.size + 1, 1, none⟩) (by simp; omega)).trans b1, (hb.cell (p := ⟨w.heap.size + 1 + 1, 0, none⟩) (by simp; omega)).trans c0, (hb.cell (p := ⟨w.heap.size + 1 + 1, 1, none⟩) (by simp; omega)).trans c1,
          (hb.cell (p := ⟨w.heap.size, 0, none⟩) (by simp; omega)).trans a0, (hb.cell (p := ⟨w.heap.size, 1, none⟩) (by simp; omega)).trans a1, (hb.cell (p := ⟨w7.heap.size, 0, none⟩) (by simp; omega)).trans p0, (hb.cell (p := ⟨w7.heap.size, 1, none⟩) (by simp; omega)).trans p1, hb⟩
      have hJ : Hid (∀ (l k l' k' : Int) (W : World), (fun W => W.cell? ⟨w.heap.size + 1, 0, none⟩ = some (.int .i64 la) ∧ W.cell? ⟨w.heap.size + 1, 1, none⟩ = some (.int .u64 ca) ∧ W.cell? ⟨w.heap.size + 1 + 1, 0, none⟩ = some (.int .i64 lb) ∧ W.cell? ⟨w.heap.size + 1 + 1, 1, none⟩ = some (.int .u64 cb) ∧ W.cell? ⟨w.heap.size, 0, none⟩ = some (.slice A n c) ∧ W.cell? ⟨w.heap.size, 1, none⟩ = some (.slice A' n' c') ∧ W.cell? ⟨w7.heap.size, 0, none⟩ = some (.int .i64 la) ∧ W.cell? ⟨w7.heap.size, 1, none⟩ = some (.int .u64 ca) ∧ Below v.heap.size v W) W → Calls Tryd.prog 22 #[.agg #[.int .i64 l, .int .u64 k], .agg #[.int .i64 l', .int .u64 k']] W fun e V => e = .returned (.agg #[.int .i64 (maxI l l'), .int .u64 (bits .or .u64 k k')]) ∧ (fun W => W.cell? ⟨w.heap.size + 1, 0, none⟩ = some (.int .i64 la) ∧ W.cell? ⟨w.heap.size + 1, 1, none⟩ = some (.int .u64 ca) ∧ W.cell? ⟨w.heap.size + 1 + 1, 0, none⟩ = some (.int .i64 lb) ∧ W.cell? ⟨w.heap.size + 1 + 1, 1, none⟩ = some (.int .u64 cb) ∧ W.cell? ⟨w.heap.size, 0, none⟩ = some (.slice A n c) ∧ W.cell? ⟨w.heap.size, 1, none⟩ = some (.slice A' n' c') ∧ W.cell? ⟨w7.heap.size, 0, none⟩ = some (.int .i64 la) ∧ W.cell? ⟨w7.heap.size, 1, none⟩ = some (.int .u64 ca) ∧ Below v.heap.size v W) V) := Lib.hid fun l k l' k' W hW =>
        (join_any l k l' k' W).mono fun e V ⟨he, hb⟩ => ⟨he, hK.out _ (hW.2.2.2.2.2.2.2.2.trans (hb.mono hW.2.2.2.2.2.2.2.2.size))⟩
      have hM : Hid (∀ (l k l' k' : Int) (W : World), (fun W => W.cell? ⟨w.heap.size + 1, 0, none⟩ = some (.int .i64 la) ∧ W.cell? ⟨w.heap.size + 1, 1, none⟩ = some (.int .u64 ca) ∧ W.cell? ⟨w.heap.size + 1 + 1, 0, none⟩ = some (.int .i64 lb) ∧ W.cell? ⟨w.heap.size + 1 + 1, 1, none⟩ = some (.int .u64 cb) ∧ W.cell? ⟨w.heap.size, 0, none⟩ = some (.slice A n c) ∧ W.cell? ⟨w.heap.size, 1, none⟩ = some (.slice A' n' c') ∧ W.cell? ⟨w7.heap.size, 0, none⟩ = some (.int .i64 la) ∧ W.cell? ⟨w7.heap.size, 1, none⟩ = some (.int .u64 ca) ∧ Below v.heap.size v W) W → Calls Tryd.prog 24 #[.agg #[.int .i64 l, .int .u64 k], .agg #[.int .i64 l', .int .u64 k']] W fun e V => e = .returned (.agg #[.int .i64 (minI l l'), .int .u64 (bits .and .u64 k k')]) ∧ (fun W => W.cell? ⟨w.heap.size + 1, 0, none⟩ = some (.int .i64 la) ∧ W.cell? ⟨w.heap.size + 1, 1, none⟩ = some (.int .u64 ca) ∧ W.cell? ⟨w.heap.size + 1 + 1, 0, none⟩ = some (.int .i64 lb) ∧ W.cell? ⟨w.heap.size + 1 + 1, 1, none⟩ = some (.int .u64 cb) ∧ W.cell? ⟨w.heap.size, 0, none⟩ = some (.slice A n c) ∧ W.cell? ⟨w.heap.size, 1, none⟩ = some (.slice A' n' c') ∧ W.cell? ⟨w7.heap.size, 0, none⟩ = some (.int .i64 la) ∧ W.cell? ⟨w7.heap.size, 1, none⟩ = some (.int .u64 ca) ∧ Below v.heap.size v W) V) := Lib.hid fun l k l' k' W hW =>
        (meet_any l k l' k' W).mono fun e V ⟨he, hb⟩ => ⟨he, hK.out _ (hW.2.2.2.2.2.2.2.2.trans (hb.mono hW.2.2.2.2.2.2.2.2.size))⟩
      have hN : Hid (∀ (l k : Int) (W : World), (fun W => W.cell? ⟨w.heap.size + 1, 0, none⟩ = some (.int .i64 la) ∧ W.cell? ⟨w.heap.size + 1, 1, none⟩ = some (.int .u64 ca) ∧ W.cell? ⟨w.heap.size + 1 + 1, 0, none⟩ = some (.int .i64 lb) ∧ W.cell? ⟨w.heap.size + 1 + 1, 1, none⟩ = some (.int .u64 cb) ∧ W.cell? ⟨w.heap.size, 0, none⟩ = some (.slice A n c) ∧ W.cell? ⟨w.heap.size, 1, none⟩ = some (.slice A' n' c') ∧ W.cell? ⟨w7.heap.size, 0, none⟩ = some (.int .i64 la) ∧ W.cell? ⟨w7.heap.size, 1, none⟩ = some (.int .u64 ca) ∧ Below v.heap.size v W) W → Calls Tryd.prog 18 #[.agg #[.slice A n c, .slice A' n' c'], .agg #[.int .i64 l, .int .u64 k]] W fun e V => e = .returned (.bool (rightB ss ss' && hasB n n' l k)) ∧ (fun W => W.cell? ⟨w.heap.size + 1, 0, none⟩ = some (.int .i64 la) ∧ W.cell? ⟨w.heap.size + 1, 1, none⟩ = some (.int .u64 ca) ∧ W.cell? ⟨w.heap.size + 1 + 1, 0, none⟩ = some (.int .i64 lb) ∧ W.cell? ⟨w.heap.size + 1 + 1, 1, none⟩ = some (.int .u64 cb) ∧ W.cell? ⟨w.heap.size, 0, none⟩ = some (.slice A n c) ∧ W.cell? ⟨w.heap.size, 1, none⟩ = some (.slice A' n' c') ∧ W.cell? ⟨w7.heap.size, 0, none⟩ = some (.int .i64 la) ∧ W.cell? ⟨w7.heap.size, 1, none⟩ = some (.int .u64 ca) ∧ Below v.heap.size v W) V) := Lib.hid fun l k W hW =>
        (in_any B n c n' c' A A' ss ss' l k W (by have := hW.2.2.2.2.2.2.2.2.size; omega) (s1.below (hW.2.2.2.2.2.2.2.2.mono (by omega))) (s2.below (hW.2.2.2.2.2.2.2.2.mono (by omega))) Hsz.out).mono fun e V ⟨he, hb⟩ => ⟨he, hK.out _ (hW.2.2.2.2.2.2.2.2.trans (hb.mono hW.2.2.2.2.2.2.2.2.size))⟩
      have hDr : Hid (∀ W, (fun W => W.cell? ⟨w.heap.size + 1, 0, none⟩ = some (.int .i64 la) ∧ W.cell? ⟨w.heap.size + 1, 1, none⟩ = some (.int .u64 ca) ∧ W.cell? ⟨w.heap.size + 1 + 1, 0, none⟩ = some (.int .i64 lb) ∧ W.cell? ⟨w.heap.size + 1 + 1, 1, none⟩ = some (.int .u64 cb) ∧ W.cell? ⟨w.heap.size, 0, none⟩ = some (.slice A n c) ∧ W.cell? ⟨w.heap.size, 1, none⟩ = some (.slice A' n' c') ∧ W.cell? ⟨w7.heap.size, 0, none⟩ = some (.int .i64 la) ∧ W.cell? ⟨w7.heap.size, 1, none⟩ = some (.int .u64 ca) ∧ Below v.heap.size v W) W → (fun W => W.cell? ⟨w.heap.size + 1, 0, none⟩ = some (.int .i64 la) ∧ W.cell? ⟨w.heap.size + 1, 1, none⟩ = some (.int .u64 ca) ∧ W.cell? ⟨w.heap.size + 1 + 1, 0, none⟩ = some (.int .i64 lb) ∧ W.cell? ⟨w.heap.size + 1 + 1, 1, none⟩ = some (.int .u64 cb) ∧ W.cell? ⟨w.heap.size, 0, none⟩ = some (.slice A n c) ∧ W.cell? ⟨w.heap.size, 1, none⟩ = some (.slice A' n' c') ∧ W.cell? ⟨w7.heap.size, 0, none⟩ = some (.int .i64 la) ∧ W.cell? ⟨w7.heap.size, 1, none⟩ = some (.int .u64 ca) ∧ Below v.heap.size v W) W.drew) := Lib.hid fun W hW => hK.out _ hW.2.2.2.2.2.2.2.2.drew
      have hS1 := hK.out _ (Below.refl _ v)
      have hql : ∀ W, (Op.equalIn 10000 27 (.agg #[.int .i64 la, .int .u64 ca]) (.agg #[.int .i64 la, .int .u64 ca])).run Tryd.prog W = .ok true W := fun W => by rw [eql_label, decide_eq_true ⟨rfl, rfl⟩]
      obtain ⟨x, hx⟩ : ∃ x, (rightB ss ss' && hasB n n' lb cb) = x := ⟨_, rfl⟩
      have Hx := Lib.hid hx
      have Hj : Hid (x = true → (rightB ss ss' && hasB n n' (maxI la lb) (bits .or .u64 ca cb)) = true) := Lib.hid fun h => (Hjm.out x Hha.out hx h).1
      have Hm : Hid (x = true → (rightB ss ss' && hasB n n' (minI la lb) (bits .and .u64 ca cb)) = true) := Lib.hid fun h => (Hjm.out x Hha.out hx h).2
      clear hx a0 a1 b0 b1 c0 c1 p0 p1 mm Hjm
      cases x
      case false =>
        refine wp_region_held_drew (S := (fun W => W.cell? ⟨w.heap.size + 1, 0, none⟩ = some (.int .i64 la) ∧ W.cell? ⟨w.heap.size + 1, 1, none⟩ = some (.int .u64 ca) ∧ W.cell? ⟨w.heap.size + 1 + 1, 0, none⟩ = some (.int .i64 lb) ∧ W.cell? ⟨w.heap.size + 1 + 1, 1, none⟩ = some (.int .u64 cb) ∧ W.cell? ⟨w.heap.size, 0, none⟩ = some (.slice A n c) ∧ W.cell? ⟨w.heap.size, 1, none⟩ = some (.slice A' n' c') ∧ W.cell? ⟨w7.heap.size, 0, none⟩ = some (.int .i64 la) ∧ W.cell? ⟨w7.heap.size, 1, none⟩ = some (.int .u64 ca) ∧ Below v.heap.size v W)) (by kernel_rfl) (by first | assumption | exact hDr.out _ (by assumption)) (fun hHeld => ?_)
        refine' wpAnyH_take (i := 0) (v := (.agg #[.int .i64 la, .int .u64 ca])) ?hi0a (by kernel_rfl) (by kernel_rfl) (by kernel_rfl) ?hq0a (Or.inl ⟨?hw0a, ?hy0a⟩) (by assumption) ?hr0a
        case hi0a => (simp only [List.getElem?_toArray, List.getElem?_cons_zero]; exact rfl)
        case hq0a => exact fun _ _ _ h => h
        case hw0a => rfl
        case hy0a => (intro wz hz; (try dsimp only at hz); go_simp)
        try simp only [Act.put, List.setIfInBounds_toArray, List.set_cons_zero, List.set_cons_succ]
        refine' wpAnyH_take (i := 1) (v := (.agg #[.int .i64 la, .int .u64 ca])) ?hi1a (by kernel_rfl) (by kernel_rfl) (by kernel_rfl) ?hq1a (Or.inl ⟨?hw1a, ?hy1a⟩) (by assumption) ?hr1a
        case hi1a => (simp only [List.getElem?_toArray, List.getElem?_cons_zero, List.getElem?_cons_succ]; exact rfl)
        case hq1a => exact fun _ _ _ h => h
        case hw1a => rfl
        case hy1a => (intro wz hz; (try dsimp only at hz); go_simp)
        try simp only [Act.put, List.setIfInBounds_toArray, List.set_cons_zero, List.set_cons_succ]
        refine' wpAnyH_take (i := 2) (v := (.bool true)) ?hi2a (by kernel_rfl) (by kernel_rfl) (by kernel_rfl) ?hq2a (Or.inl ⟨?hw2a, ?hy2a⟩) (by assumption) ?hr2a
        case hi2a => (simp only [List.getElem?_toArray, List.getElem?_cons_zero, List.getElem?_cons_succ]; exact rfl)
        case hq2a => exact fun _ _ _ h => h
        case hw2a => rfl
        case hy2a => (intro wz hz; (try dsimp only at hz); go_simp)
        try simp only [Act.put, List.setIfInBounds_toArray, List.set_cons_zero, List.set_cons_succ]
        refine' wpAnyH_take (i := 3) (v := (.bool true)) ?hi3a (by kernel_rfl) (by kernel_rfl) (by kernel_rfl) ?hq3a (Or.inl ⟨?hw3a, ?hy3a⟩) (by assumption) ?hr3a
        case hi3a => (simp only [List.getElem?_toArray, List.getElem?_cons_zero, List.getElem?_cons_succ]; exact rfl)
        case hq3a => exact fun _ _ _ h => h
        case hw3a => rfl
        case hy3a => (intro wz hz; (try dsimp only at hz); go_simp)
        try simp only [Act.put, List.setIfInBounds_toArray, List.set_cons_zero, List.set_cons_succ]
        refine' wpAnyH_take (i := 4) (v := (.int .i64 0)) ?hi4a (by kernel_rfl) (by kernel_rfl) (by kernel_rfl) ?hq4a (Or.inl ⟨?hw4a, ?hy4a⟩) (by assumption) ?hr4a
        case hi4a => (simp only [List.getElem?_toArray, List.getElem?_cons_zero, List.getElem?_cons_succ]; exact rfl)
        case hq4a => exact fun _ _ _ h => h
        case hw4a => rfl
        case hy4a => (intro wz hz; (try dsimp only at hz); go_simp)
        try simp only [Act.put, List.setIfInBounds_toArray, List.set_cons_zero, List.set_cons_succ]
        refine' wpAnyH_take (i := 5) (v := (.bool true)) ?hi5a (by kernel_rfl) (by kernel_rfl) (by kernel_rfl) ?hq5a (Or.inl ⟨?hw5a, ?hy5a⟩) (by assumption) ?hr5a
        case hi5a => (simp only [List.getElem?_toArray, List.getElem?_cons_zero, List.getElem?_cons_succ]; exact rfl)
        case hq5a => exact fun _ _ _ h => h
        case hw5a => rfl
        case hy5a => (intro wz hz; (try dsimp only at hz); go_simp)
        try simp only [Act.put, List.setIfInBounds_toArray, List.set_cons_zero, List.set_cons_succ]
        refine' wpAnyH_take (i := 6) (v := (.bool true)) ?hi6a (by kernel_rfl) (by kernel_rfl) (by kernel_rfl) ?hq6a (Or.inl ⟨?hw6a, ?hy6a⟩) (by assumption) ?hr6a
        case hi6a => (simp only [List.getElem?_toArray, List.getElem?_cons_zero, List.getElem?_cons_succ]; exact rfl)
        case hq6a => exact fun _ _ _ h => h
        case hw6a => rfl
        case hy6a => (intro wz hz; (try dsimp only at hz); go_simp)
        try simp only [Act.put, List.setIfInBounds_toArray, List.set_cons_zero, List.set_cons_succ]
        refine' wpAnyH_take (i := 7) (v := (.bool true)) ?hi7a (by kernel_rfl) (by kernel_rfl) (by kernel_rfl) ?hq7a (Or.inl ⟨?hw7a, ?hy7a⟩) (by assumption) ?hr7a
        case hi7a => (simp only [List.getElem?_toArray, List.getElem?_cons_zero, List.getElem?_cons_succ]; exact rfl)
        case hq7a => exact fun _ _ _ h => h
        case hw7a => rfl
        case hy7a => (intro wz hz; (try dsimp only at hz); go_simp)
        try simp only [Act.put, List.setIfInBounds_toArray, List.set_cons_zero, List.set_cons_succ]
        refine' wpAnyH_take (i := 8) (v := (.agg #[.slice A n c, .slice A' n' c'])) ?hi8a (by kernel_rfl) (by kernel_rfl) (by kernel_rfl) ?hq8a (Or.inl ⟨?hw8a, ?hy8a⟩) (by assumption) ?hr8a
        case hi8a => (simp only [List.getElem?_toArray, List.getElem?_cons_zero, List.getElem?_cons_succ]; exact rfl)
        case hq8a => exact fun _ _ _ h => h
        case hw8a => rfl
        case hy8a => (intro wz hz; (try dsimp only at hz); go_simp)
        try simp only [Act.put, List.setIfInBounds_toArray, List.set_cons_zero, List.set_cons_succ]
        refine' wpAnyH_take (i := 9) (v := (.agg #[.int .i64 lb, .int .u64 cb])) ?hi9a (by kernel_rfl) (by kernel_rfl) (by kernel_rfl) ?hq9a (Or.inl ⟨?hw9a, ?hy9a⟩) (by assumption) ?hr9a
        case hi9a => (simp only [List.getElem?_toArray, List.getElem?_cons_zero, List.getElem?_cons_succ]; exact rfl)
        case hq9a => exact fun _ _ _ h => h
        case hw9a => rfl
        case hy9a => (intro wz hz; (try dsimp only at hz); go_simp)
        try simp only [Act.put, List.setIfInBounds_toArray, List.set_cons_zero, List.set_cons_succ]
        refine wpAnyH_ready (rs := [10]) (by kernel_rfl) (by simp) ?_
        refine AllReadyH.cons (o := ?hoa) ?hioa (fun K hKK => ?_) AllReadyH.nil
        case hioa => (simp only [List.getElem?_toArray, List.getElem?_cons_zero, List.getElem?_cons_succ]; exact rfl)
        go_simp
        go_at_call 18
        refine (hN.out _ _ _ ?_).mono ?_
        · assumption
        rintro e w8 ⟨rfl, hS8⟩
        rw [Hx.out]
        refine hKK.out _ _ hS8 (fun hHeld8 => ?_)
        try simp only [Act.put, List.setIfInBounds_toArray, List.set_cons_zero, List.set_cons_succ]
        refine' wpAnyH_take (i := 11) (v := (.bool true)) ?hi11a (by kernel_rfl) (by kernel_rfl) (by kernel_rfl) ?hq11a (Or.inl ⟨?hw11a, ?hy11a⟩) (by assumption) ?hr11a
        case hi11a => (simp only [List.getElem?_toArray, List.getElem?_cons_zero, List.getElem?_cons_succ]; exact rfl)
        case hq11a => exact fun _ _ _ h => h
        case hw11a => rfl
        case hy11a => (intro wz hz; (try dsimp only at hz); go_simp)
        try simp only [Act.put, List.setIfInBounds_toArray, List.set_cons_zero, List.set_cons_succ]
        refine' wpAnyH_take (i := 12) (v := (.bool true)) ?hi12a (by kernel_rfl) (by kernel_rfl) (by kernel_rfl) ?hq12a (Or.inl ⟨?hw12a, ?hy12a⟩) (by assumption) ?hr12a
        case hi12a => (simp only [List.getElem?_toArray, List.getElem?_cons_zero, List.getElem?_cons_succ]; exact rfl)
        case hq12a => exact fun _ _ _ h => h
        case hw12a => rfl
        case hy12a => (intro wz hz; (try dsimp only at hz); go_simp)
        try simp only [Act.put, List.setIfInBounds_toArray, List.set_cons_zero, List.set_cons_succ]
        refine' wpAnyH_take (i := 13) (v := undef) ?hi13a (by kernel_rfl) (by kernel_rfl) (by kernel_rfl) ?hq13a (Or.inr ⟨?hw13a, rfl⟩) (by assumption) ?hr13a
        case hi13a => (simp only [List.getElem?_toArray, List.getElem?_cons_zero, List.getElem?_cons_succ]; exact rfl)
        case hq13a => exact fun _ _ _ h => h
        case hw13a => rfl
        try simp only [Act.put, List.setIfInBounds_toArray, List.set_cons_zero, List.set_cons_succ]
        refine' wpAnyH_take (i := 14) (v := undef) ?hi14a (by kernel_rfl) (by kernel_rfl) (by kernel_rfl) ?hq14a (Or.inr ⟨?hw14a, rfl⟩) (by assumption) ?hr14a
        case hi14a => (simp only [List.getElem?_toArray, List.getElem?_cons_zero, List.getElem?_cons_succ]; exact rfl)
        case hq14a => exact fun _ _ _ h => h
        case hw14a => rfl
        try simp only [Act.put, List.setIfInBounds_toArray, List.set_cons_zero, List.set_cons_succ]
        refine' wpAnyH_take (i := 15) (v := undef) ?hi15a (by kernel_rfl) (by kernel_rfl) (by kernel_rfl) ?hq15a (Or.inr ⟨?hw15a, rfl⟩) (by assumption) ?hr15a
        case hi15a => (simp only [List.getElem?_toArray, List.getElem?_cons_zero, List.getElem?_cons_succ]; exact rfl)
        case hq15a => exact fun _ _ _ h => h
        case hw15a => rfl
        try simp only [Act.put, List.setIfInBounds_toArray, List.set_cons_zero, List.set_cons_succ]
        refine' wpAnyH_take (i := 16) (v := undef) ?hi16a (by kernel_rfl) (by kernel_rfl) (by kernel_rfl) ?hq16a (Or.inr ⟨?hw16a, rfl⟩) (by assumption) ?hr16a
        case hi16a => (simp only [List.getElem?_toArray, List.getElem?_cons_zero, List.getElem?_cons_succ]; exact rfl)
        case hq16a => exact fun _ _ _ h => h
        case hw16a => rfl
        try simp only [Act.put, List.setIfInBounds_toArray, List.set_cons_zero, List.set_cons_succ]
        refine' wpAnyH_take (i := 17) (v := undef) ?hi17a (by kernel_rfl) (by kernel_rfl) (by kernel_rfl) ?hq17a (Or.inr ⟨?hw17a, rfl⟩) (by assumption) ?hr17a
        case hi17a => (simp only [List.getElem?_toArray, List.getElem?_cons_zero, List.getElem?_cons_succ]; exact rfl)
        case hq17a => exact fun _ _ _ h => h
        case hw17a => rfl
        try simp only [Act.put, List.setIfInBounds_toArray, List.set_cons_zero, List.set_cons_succ]
        refine' wpAnyH_take (i := 18) (v := undef) ?hi18a (by kernel_rfl) (by kernel_rfl) (by kernel_rfl) ?hq18a (Or.inr ⟨?hw18a, rfl⟩) (by assumption) ?hr18a
        case hi18a => (simp only [List.getElem?_toArray, List.getElem?_cons_zero, List.getElem?_cons_succ]; exact rfl)
        case hq18a => exact fun _ _ _ h => h
        case hw18a => rfl
        try simp only [Act.put, List.setIfInBounds_toArray, List.set_cons_zero, List.set_cons_succ]
        refine' wpAnyH_take (i := 19) (v := undef) ?hi19a (by kernel_rfl) (by kernel_rfl) (by kernel_rfl) ?hq19a (Or.inr ⟨?hw19a, rfl⟩) (by assumption) ?hr19a
        case hi19a => (simp only [List.getElem?_toArray, List.getElem?_cons_zero, List.getElem?_cons_succ]; exact rfl)
        case hq19a => exact fun _ _ _ h => h
        case hw19a => rfl
        try simp only [Act.put, List.setIfInBounds_toArray, List.set_cons_zero, List.set_cons_succ]
        refine' wpAnyH_take (i := 20) (v := undef) ?hi20a (by kernel_rfl) (by kernel_rfl) (by kernel_rfl) ?hq20a (Or.inr ⟨?hw20a, rfl⟩) (by assumption) ?hr20a
        case hi20a => (simp only [List.getElem?_toArray, List.getElem?_cons_zero, List.getElem?_cons_succ]; exact rfl)
        case hq20a => exact fun _ _ _ h => h
        case hw20a => rfl
        try simp only [Act.put, List.setIfInBounds_toArray, List.set_cons_zero, List.set_cons_succ]
        refine' wpAnyH_take (i := 21) (v := undef) ?hi21a (by kernel_rfl) (by kernel_rfl) (by kernel_rfl) ?hq21a (Or.inr ⟨?hw21a, rfl⟩) (by assumption) ?hr21a
        case hi21a => (simp only [List.getElem?_toArray, List.getElem?_cons_zero, List.getElem?_cons_succ]; exact rfl)
        case hq21a => exact fun _ _ _ h => h
        case hw21a => rfl
        try simp only [Act.put, List.setIfInBounds_toArray, List.set_cons_zero, List.set_cons_succ]
        refine' wpAnyH_take (i := 22) (v := undef) ?hi22a (by kernel_rfl) (by kernel_rfl) (by kernel_rfl) ?hq22a (Or.inr ⟨?hw22a, rfl⟩) (by assumption) ?hr22a
        case hi22a => (simp only [List.getElem?_toArray, List.getElem?_cons_zero, List.getElem?_cons_succ]; exact rfl)
        case hq22a => exact fun _ _ _ h => h
        case hw22a => rfl
        try simp only [Act.put, List.setIfInBounds_toArray, List.set_cons_zero, List.set_cons_succ]
        refine' wpAnyH_take (i := 23) (v := undef) ?hi23a (by kernel_rfl) (by kernel_rfl) (by kernel_rfl) ?hq23a (Or.inr ⟨?hw23a, rfl⟩) (by assumption) ?hr23a
        case hi23a => (simp only [List.getElem?_toArray, List.getElem?_cons_zero, List.getElem?_cons_succ]; exact rfl)
        case hq23a => exact fun _ _ _ h => h
        case hw23a => rfl
        try simp only [Act.put, List.setIfInBounds_toArray, List.set_cons_zero, List.set_cons_succ]
        refine' wpAnyH_take (i := 24) (v := undef) ?hi24a (by kernel_rfl) (by kernel_rfl) (by kernel_rfl) ?hq24a (Or.inr ⟨?hw24a, rfl⟩) (by assumption) ?hr24a
        case hi24a => (simp only [List.getElem?_toArray, List.getElem?_cons_zero, List.getElem?_cons_succ]; exact rfl)
        case hq24a => exact fun _ _ _ h => h
        case hw24a => rfl
        try simp only [Act.put, List.setIfInBounds_toArray, List.set_cons_zero, List.set_cons_succ]
        refine' wpAnyH_take (i := 25) (v := (.bool true)) ?hi25a (by kernel_rfl) (by kernel_rfl) (by kernel_rfl) ?hq25a (Or.inl ⟨?hw25a, ?hy25a⟩) (by assumption) ?hr25a
        case hi25a => (simp only [List.getElem?_toArray, List.getElem?_cons_zero, List.getElem?_cons_succ]; exact rfl)
        case hq25a => exact fun _ _ _ h => h
        case hw25a => rfl
        case hy25a => (intro wz hz; (try dsimp only at hz); go_simp)
        try simp only [Act.put, List.setIfInBounds_toArray, List.set_cons_zero, List.set_cons_succ]
        refine' wpAnyH_take (i := 26) (v := (.bool true)) ?hi26a (by kernel_rfl) (by kernel_rfl) (by kernel_rfl) ?hq26a (Or.inl ⟨?hw26a, ?hy26a⟩) (by assumption) ?hr26a
        case hi26a => (simp only [List.getElem?_toArray, List.getElem?_cons_zero, List.getElem?_cons_succ]; exact rfl)
        case hq26a => exact fun _ _ _ h => h
        case hw26a => rfl
        case hy26a => (intro wz hz; (try dsimp only at hz); go_simp)
        try simp only [Act.put, List.setIfInBounds_toArray, List.set_cons_zero, List.set_cons_succ]
        refine' wpAnyH_take (i := 27) (v := (.bool true)) ?hi27a (by kernel_rfl) (by kernel_rfl) (by kernel_rfl) ?hq27a (Or.inl ⟨?hw27a, ?hy27a⟩) (by assumption) ?hr27a
        case hi27a => (simp only [List.getElem?_toArray, List.getElem?_cons_zero, List.getElem?_cons_succ]; exact rfl)
        case hq27a => exact fun _ _ _ h => h
        case hw27a => rfl
        case hy27a => (intro wz hz; (try dsimp only at hz); go_simp)
        try simp only [Act.put, List.setIfInBounds_toArray, List.set_cons_zero, List.set_cons_succ]
        refine wpAnyH_done (by kernel_rfl) ?_ _
        have hBv := hS8.2.2.2.2.2.2.2.2
        go_wp2
        go_ret
        exact ⟨rfl, hwv.trans (hBv.mono (by omega))⟩
      case true =>
        have Hj1 := Lib.hid (Hj.out rfl)
        have Hm1 := Lib.hid (Hm.out rfl)
        clear Hj Hm
        go_region_held3 (fun W => W.cell? ⟨w.heap.size + 1, 0, none⟩ = some (.int .i64 la) ∧ W.cell? ⟨w.heap.size + 1, 1, none⟩ = some (.int .u64 ca) ∧ W.cell? ⟨w.heap.size + 1 + 1, 0, none⟩ = some (.int .i64 lb) ∧ W.cell? ⟨w.heap.size + 1 + 1, 1, none⟩ = some (.int .u64 cb) ∧ W.cell? ⟨w.heap.size, 0, none⟩ = some (.slice A n c) ∧ W.cell? ⟨w.heap.size, 1, none⟩ = some (.slice A' n' c') ∧ W.cell? ⟨w7.heap.size, 0, none⟩ = some (.int .i64 la) ∧ W.cell? ⟨w7.heap.size, 1, none⟩ = some (.int .u64 ca) ∧ Below v.heap.size v W)
          (first | assumption | exact hDr.out _ (by assumption) | (trace_state; fail))
          (first
            | (go_at_call 22; refine (hJ.out _ _ _ _ _ ?_).mono ?_; assumption; rintro e w8 ⟨rfl, hS8⟩)
            | (go_at_call 24; refine (hM.out _ _ _ _ _ ?_).mono ?_; assumption; rintro e w8 ⟨rfl, hS8⟩)
            | (go_at_call 18; refine (hN.out _ _ _ ?_).mono ?_; assumption; rintro e w8 ⟨rfl, hS8⟩; (first | rw [Hx.out] | rw [Hj1.out] | rw [Hm1.out])))
        all_goals
          rename_i hS
          have hBv := hS.2.2.2.2.2.2.2.2
          go_wp2
          go_ret
          exact ⟨rfl, hwv.trans (hBv.mono (by omega))⟩
    · rw [hpa]
      have Hha := Lib.hid hha
      clear hpa hha
      go_wp2_with fail
      refine (in_any B n c n' c' A A' ss ss' la ca wp (by omega) s1 s2 Hsz.out).mono ?_
      rintro e w7 ⟨rfl, hb7⟩
      rw [Hha.out]
      have hb7' := hbp'.trans (hb7.mono hzp)
      obtain ⟨_, _, _, _, _, _, _, _, _, hw7⟩ := hK.out _ hb7'
      go_wp2
      go_ret
      exact ⟨rfl, hw7⟩
  · obtain ⟨hq1, hq2⟩ := Hpp.out L k hrr
    rw [hrr]
    have Hq1 := Lib.hid hq1
    have Hq2 := Lib.hid hq2
    clear hrr hq1 hq2 Hpp
    simp only [parseV]
    have hbX : Below w1.heap.size w1 (w4.alloc (.cells #[.int .i64 L, .int .u64 k] 27)) := hb4'.alloc hz4 _
    clear a0 a1 b0 b1 c0 c1 s1 s2 mm hw4
    obtain ⟨a0, a1, b0, b1, c0, c1, s1, s2, mm, hwX⟩ := hK.out _ hbX
    go_wp2_with fail
    refine (print_any B n c n' c' A A' ss ss' L k _ (by simp; omega) s1 s2 Hsz.out).mono ?_
    rintro e w5 ⟨rfl, hb5⟩
    rw [Hq1.out, bytes_self]
    have hb5' := hbX.trans (hb5.mono hbX.size)
    have hz5 := hb5'.size
    have x0 : w5.cell? ⟨w4.heap.size, 0, none⟩ = some (.int .i64 L) := by rw [hb5.cell (by simp)]; go_simp
    have x1 : w5.cell? ⟨w4.heap.size, 1, none⟩ = some (.int .u64 k) := by rw [hb5.cell (by simp)]; go_simp
    clear a0 a1 b0 b1 c0 c1 s1 s2 mm hwX
    obtain ⟨a0, a1, b0, b1, c0, c1, s1, s2, mm, hw5⟩ := hK.out _ hb5'
    go_wp2_with fail
    refine (in_any B n c n' c' A A' ss ss' L k w5 (by omega) s1 s2 Hsz.out).mono ?_
    rintro e w6 ⟨rfl, hb6⟩
    rw [Hq2.out]
    have hbT := hb5'.trans (hb6.mono hz5)
    have hzT := hbT.size
    clear a0 a1 b0 b1 c0 c1 s1 s2 mm hw5
    obtain ⟨a0, a1, b0, b1, c0, c1, s1, s2, mm, hwT⟩ := hK.out _ hbT
    go_wp2_with fail
    refine (print_any B n c n' c' A A' ss ss' la ca _ (by omega) s1 s2 Hsz.out).mono ?_
    rintro e wp ⟨rfl, hbp⟩
    have hbp' := hbT.trans (hbp.mono hzT)
    have hzp := hbp'.size
    clear a0 a1 b0 b1 c0 c1 s1 s2 mm hwT
    obtain ⟨a0, a1, b0, b1, c0, c1, s1, s2, mm, hwp⟩ := hK.out _ hbp'
    rcases Hpa.out with ⟨hpa, hha, hpv, hts⟩ | ⟨hpa, hha⟩
    · rw [hpa]
      have Hha := Lib.hid hha
      have Hpv := Lib.hid hpv
      clear hpa hha hpv
      go_wp2_with fail
      refine (parse_any B n c n' c' A A' ss ss' ⟨(textT ss ss' la ca).toArray⟩ m wp (by omega) s1 s2 Hsz.out hts mm).mono ?_
      rintro e w7 ⟨rfl, hb7⟩
      rw [show (⟨(textT ss ss' la ca).toArray⟩ : ByteArray).data.toList = textT ss ss' la ca by simp, Hpv.out]
      have hb7' := hbp'.trans (hb7.mono hzp)
      have hbv : Below w1.heap.size w1 (w7.alloc (.cells #[.int .i64 la, .int .u64 ca] 27)) := hb7'.alloc hb7'.size _
      have p0 : (w7.alloc (.cells #[.int .i64 la, .int .u64 ca] 27)).cell? ⟨w7.heap.size, 0, none⟩ = some (.int .i64 la) := by go_simp
      have p1 : (w7.alloc (.cells #[.int .i64 la, .int .u64 ca] 27)).cell? ⟨w7.heap.size, 1, none⟩ = some (.int .u64 ca) := by go_simp
      have hzv : (w7.alloc (.cells #[.int .i64 la, .int .u64 ca] 27)).heap.size = w7.heap.size + 1 := by simp
      clear a0 a1 b0 b1 c0 c1 s1 s2 mm hwp
      obtain ⟨a0, a1, b0, b1, c0, c1, s1, s2, mm, hwv⟩ := hK.out _ hbv
      go_wp2_with fail
      clear hK Hpv Hpa
      revert hbv p0 p1 hzv a0 a1 b0 b1 c0 c1 s1 s2 mm hwv
      generalize (w7.alloc (.cells #[.int .i64 la, .int .u64 ca] 27)) = v
      intro hbv p0 p1 hzv a0 a1 b0 b1 c0 c1 s1 s2 mm hwv
      have hz7 := hb7'.size
      have hK : Hid (∀ W, Below v.heap.size v W → (fun W => W.cell? ⟨w.heap.size + 1, 0, none⟩ = some (.int .i64 la) ∧ W.cell? ⟨w.heap.size + 1, 1, none⟩ = some (.int .u64 ca) ∧ W.cell? ⟨w.heap.size + 1 + 1, 0, none⟩ = some (.int .i64 lb) ∧ W.cell? ⟨w.heap.size + 1 + 1, 1, none⟩ = some (.int .u64 cb) ∧ W.cell? ⟨w.heap.size, 0, none⟩ = some (.slice A n c) ∧ W.cell? ⟨w.heap.size, 1, none⟩ = some (.slice A' n' c') ∧ W.cell? ⟨w7.heap.size, 0, none⟩ = some (.int .i64 la) ∧ W.cell? ⟨w7.heap.size, 1, none⟩ = some (.int .u64 ca) ∧ Below v.heap.size v W) W) := Lib.hid fun W hb =>
        ⟨(hb.cell (p := ⟨w.heap.size + 1, 0, none⟩) (by simp; omega)).trans b0, (hb.cell (p := ⟨w.heap.size + 1, 1, none⟩) (by simp; omega)).trans b1, (hb.cell (p := ⟨w.heap.size + 1 + 1, 0, none⟩) (by simp; omega)).trans c0, (hb.cell (p := ⟨w.heap.size + 1 + 1, 1, none⟩) (by simp; omega)).trans c1,
          (hb.cell (p := ⟨w.heap.size, 0, none⟩) (by simp; omega)).trans a0, (hb.cell (p := ⟨w.heap.size, 1, none⟩) (by simp; omega)).trans a1, (hb.cell (p := ⟨w7.heap.size, 0, none⟩) (by simp; omega)).trans p0, (hb.cell (p := ⟨w7.heap.size, 1, none⟩) (by simp; omega)).trans p1, hb⟩
      have hJ : Hid (∀ (l k l' k' : Int) (W : World), (fun W => W.cell? ⟨w.heap.size + 1, 0, none⟩ = some (.int .i64 la) ∧ W.cell? ⟨w.heap.size + 1, 1, none⟩ = some (.int .u64 ca) ∧ W.cell? ⟨w.heap.size + 1 + 1, 0, none⟩ = some (.int .i64 lb) ∧ W.cell? ⟨w.heap.size + 1 + 1, 1, none⟩ = some (.int .u64 cb) ∧ W.cell? ⟨w.heap.size, 0, none⟩ = some (.slice A n c) ∧ W.cell? ⟨w.heap.size, 1, none⟩ = some (.slice A' n' c') ∧ W.cell? ⟨w7.heap.size, 0, none⟩ = some (.int .i64 la) ∧ W.cell? ⟨w7.heap.size, 1, none⟩ = some (.int .u64 ca) ∧ Below v.heap.size v W) W → Calls Tryd.prog 22 #[.agg #[.int .i64 l, .int .u64 k], .agg #[.int .i64 l', .int .u64 k']] W fun e V => e = .returned (.agg #[.int .i64 (maxI l l'), .int .u64 (bits .or .u64 k k')]) ∧ (fun W => W.cell? ⟨w.heap.size + 1, 0, none⟩ = some (.int .i64 la) ∧ W.cell? ⟨w.heap.size + 1, 1, none⟩ = some (.int .u64 ca) ∧ W.cell? ⟨w.heap.size + 1 + 1, 0, none⟩ = some (.int .i64 lb) ∧ W.cell? ⟨w.heap.size + 1 + 1, 1, none⟩ = some (.int .u64 cb) ∧ W.cell? ⟨w.heap.size, 0, none⟩ = some (.slice A n c) ∧ W.cell? ⟨w.heap.size, 1, none⟩ = some (.slice A' n' c') ∧ W.cell? ⟨w7.heap.size, 0, none⟩ = some (.int .i64 la) ∧ W.cell? ⟨w7.heap.size, 1, none⟩ = some (.int .u64 ca) ∧ Below v.heap.size v W) V) := Lib.hid fun l k l' k' W hW =>
        (join_any l k l' k' W).mono fun e V ⟨he, hb⟩ => ⟨he, hK.out _ (hW.2.2.2.2.2.2.2.2.trans (hb.mono hW.2.2.2.2.2.2.2.2.size))⟩
      have hM : Hid (∀ (l k l' k' : Int) (W : World), (fun W => W.cell? ⟨w.heap.size + 1, 0, none⟩ = some (.int .i64 la) ∧ W.cell? ⟨w.heap.size + 1, 1, none⟩ = some (.int .u64 ca) ∧ W.cell? ⟨w.heap.size + 1 + 1, 0, none⟩ = some (.int .i64 lb) ∧ W.cell? ⟨w.heap.size + 1 + 1, 1, none⟩ = some (.int .u64 cb) ∧ W.cell? ⟨w.heap.size, 0, none⟩ = some (.slice A n c) ∧ W.cell? ⟨w.heap.size, 1, none⟩ = some (.slice A' n' c') ∧ W.cell? ⟨w7.heap.size, 0, none⟩ = some (.int .i64 la) ∧ W.cell? ⟨w7.heap.size, 1, none⟩ = some (.int .u64 ca) ∧ Below v.heap.size v W) W → Calls Tryd.prog 24 #[.agg #[.int .i64 l, .int .u64 k], .agg #[.int .i64 l', .int .u64 k']] W fun e V => e = .returned (.agg #[.int .i64 (minI l l'), .int .u64 (bits .and .u64 k k')]) ∧ (fun W => W.cell? ⟨w.heap.size + 1, 0, none⟩ = some (.int .i64 la) ∧ W.cell? ⟨w.heap.size + 1, 1, none⟩ = some (.int .u64 ca) ∧ W.cell? ⟨w.heap.size + 1 + 1, 0, none⟩ = some (.int .i64 lb) ∧ W.cell? ⟨w.heap.size + 1 + 1, 1, none⟩ = some (.int .u64 cb) ∧ W.cell? ⟨w.heap.size, 0, none⟩ = some (.slice A n c) ∧ W.cell? ⟨w.heap.size, 1, none⟩ = some (.slice A' n' c') ∧ W.cell? ⟨w7.heap.size, 0, none⟩ = some (.int .i64 la) ∧ W.cell? ⟨w7.heap.size, 1, none⟩ = some (.int .u64 ca) ∧ Below v.heap.size v W) V) := Lib.hid fun l k l' k' W hW =>
        (meet_any l k l' k' W).mono fun e V ⟨he, hb⟩ => ⟨he, hK.out _ (hW.2.2.2.2.2.2.2.2.trans (hb.mono hW.2.2.2.2.2.2.2.2.size))⟩
      have hN : Hid (∀ (l k : Int) (W : World), (fun W => W.cell? ⟨w.heap.size + 1, 0, none⟩ = some (.int .i64 la) ∧ W.cell? ⟨w.heap.size + 1, 1, none⟩ = some (.int .u64 ca) ∧ W.cell? ⟨w.heap.size + 1 + 1, 0, none⟩ = some (.int .i64 lb) ∧ W.cell? ⟨w.heap.size + 1 + 1, 1, none⟩ = some (.int .u64 cb) ∧ W.cell? ⟨w.heap.size, 0, none⟩ = some (.slice A n c) ∧ W.cell? ⟨w.heap.size, 1, none⟩ = some (.slice A' n' c') ∧ W.cell? ⟨w7.heap.size, 0, none⟩ = some (.int .i64 la) ∧ W.cell? ⟨w7.heap.size, 1, none⟩ = some (.int .u64 ca) ∧ Below v.heap.size v W) W → Calls Tryd.prog 18 #[.agg #[.slice A n c, .slice A' n' c'], .agg #[.int .i64 l, .int .u64 k]] W fun e V => e = .returned (.bool (rightB ss ss' && hasB n n' l k)) ∧ (fun W => W.cell? ⟨w.heap.size + 1, 0, none⟩ = some (.int .i64 la) ∧ W.cell? ⟨w.heap.size + 1, 1, none⟩ = some (.int .u64 ca) ∧ W.cell? ⟨w.heap.size + 1 + 1, 0, none⟩ = some (.int .i64 lb) ∧ W.cell? ⟨w.heap.size + 1 + 1, 1, none⟩ = some (.int .u64 cb) ∧ W.cell? ⟨w.heap.size, 0, none⟩ = some (.slice A n c) ∧ W.cell? ⟨w.heap.size, 1, none⟩ = some (.slice A' n' c') ∧ W.cell? ⟨w7.heap.size, 0, none⟩ = some (.int .i64 la) ∧ W.cell? ⟨w7.heap.size, 1, none⟩ = some (.int .u64 ca) ∧ Below v.heap.size v W) V) := Lib.hid fun l k W hW =>
        (in_any B n c n' c' A A' ss ss' l k W (by have := hW.2.2.2.2.2.2.2.2.size; omega) (s1.below (hW.2.2.2.2.2.2.2.2.mono (by omega))) (s2.below (hW.2.2.2.2.2.2.2.2.mono (by omega))) Hsz.out).mono fun e V ⟨he, hb⟩ => ⟨he, hK.out _ (hW.2.2.2.2.2.2.2.2.trans (hb.mono hW.2.2.2.2.2.2.2.2.size))⟩
      have hDr : Hid (∀ W, (fun W => W.cell? ⟨w.heap.size + 1, 0, none⟩ = some (.int .i64 la) ∧ W.cell? ⟨w.heap.size + 1, 1, none⟩ = some (.int .u64 ca) ∧ W.cell? ⟨w.heap.size + 1 + 1, 0, none⟩ = some (.int .i64 lb) ∧ W.cell? ⟨w.heap.size + 1 + 1, 1, none⟩ = some (.int .u64 cb) ∧ W.cell? ⟨w.heap.size, 0, none⟩ = some (.slice A n c) ∧ W.cell? ⟨w.heap.size, 1, none⟩ = some (.slice A' n' c') ∧ W.cell? ⟨w7.heap.size, 0, none⟩ = some (.int .i64 la) ∧ W.cell? ⟨w7.heap.size, 1, none⟩ = some (.int .u64 ca) ∧ Below v.heap.size v W) W → (fun W => W.cell? ⟨w.heap.size + 1, 0, none⟩ = some (.int .i64 la) ∧ W.cell? ⟨w.heap.size + 1, 1, none⟩ = some (.int .u64 ca) ∧ W.cell? ⟨w.heap.size + 1 + 1, 0, none⟩ = some (.int .i64 lb) ∧ W.cell? ⟨w.heap.size + 1 + 1, 1, none⟩ = some (.int .u64 cb) ∧ W.cell? ⟨w.heap.size, 0, none⟩ = some (.slice A n c) ∧ W.cell? ⟨w.heap.size, 1, none⟩ = some (.slice A' n' c') ∧ W.cell? ⟨w7.heap.size, 0, none⟩ = some (.int .i64 la) ∧ W.cell? ⟨w7.heap.size, 1, none⟩ = some (.int .u64 ca) ∧ Below v.heap.size v W) W.drew) := Lib.hid fun W hW => hK.out _ hW.2.2.2.2.2.2.2.2.drew
      have hS1 := hK.out _ (Below.refl _ v)
      have hql : ∀ W, (Op.equalIn 10000 27 (.agg #[.int .i64 la, .int .u64 ca]) (.agg #[.int .i64 la, .int .u64 ca])).run Tryd.prog W = .ok true W := fun W => by rw [eql_label, decide_eq_true ⟨rfl, rfl⟩]
      obtain ⟨x, hx⟩ : ∃ x, (rightB ss ss' && hasB n n' lb cb) = x := ⟨_, rfl⟩
      have Hx := Lib.hid hx
      have Hj : Hid (x = true → (rightB ss ss' && hasB n n' (maxI la lb) (bits .or .u64 ca cb)) = true) := Lib.hid fun h => (Hjm.out x Hha.out hx h).1
      have Hm : Hid (x = true → (rightB ss ss' && hasB n n' (minI la lb) (bits .and .u64 ca cb)) = true) := Lib.hid fun h => (Hjm.out x Hha.out hx h).2
      clear hx a0 a1 b0 b1 c0 c1 p0 p1 mm Hjm
      cases x
      case false =>
        refine wp_region_held_drew (S := (fun W => W.cell? ⟨w.heap.size + 1, 0, none⟩ = some (.int .i64 la) ∧ W.cell? ⟨w.heap.size + 1, 1, none⟩ = some (.int .u64 ca) ∧ W.cell? ⟨w.heap.size + 1 + 1, 0, none⟩ = some (.int .i64 lb) ∧ W.cell? ⟨w.heap.size + 1 + 1, 1, none⟩ = some (.int .u64 cb) ∧ W.cell? ⟨w.heap.size, 0, none⟩ = some (.slice A n c) ∧ W.cell? ⟨w.heap.size, 1, none⟩ = some (.slice A' n' c') ∧ W.cell? ⟨w7.heap.size, 0, none⟩ = some (.int .i64 la) ∧ W.cell? ⟨w7.heap.size, 1, none⟩ = some (.int .u64 ca) ∧ Below v.heap.size v W)) (by kernel_rfl) (by first | assumption | exact hDr.out _ (by assumption)) (fun hHeld => ?_)
        refine' wpAnyH_take (i := 0) (v := (.agg #[.int .i64 la, .int .u64 ca])) ?hi0b (by kernel_rfl) (by kernel_rfl) (by kernel_rfl) ?hq0b (Or.inl ⟨?hw0b, ?hy0b⟩) (by assumption) ?hr0b
        case hi0b => (simp only [List.getElem?_toArray, List.getElem?_cons_zero]; exact rfl)
        case hq0b => exact fun _ _ _ h => h
        case hw0b => rfl
        case hy0b => (intro wz hz; (try dsimp only at hz); go_simp)
        try simp only [Act.put, List.setIfInBounds_toArray, List.set_cons_zero, List.set_cons_succ]
        refine' wpAnyH_take (i := 1) (v := (.agg #[.int .i64 la, .int .u64 ca])) ?hi1b (by kernel_rfl) (by kernel_rfl) (by kernel_rfl) ?hq1b (Or.inl ⟨?hw1b, ?hy1b⟩) (by assumption) ?hr1b
        case hi1b => (simp only [List.getElem?_toArray, List.getElem?_cons_zero, List.getElem?_cons_succ]; exact rfl)
        case hq1b => exact fun _ _ _ h => h
        case hw1b => rfl
        case hy1b => (intro wz hz; (try dsimp only at hz); go_simp)
        try simp only [Act.put, List.setIfInBounds_toArray, List.set_cons_zero, List.set_cons_succ]
        refine' wpAnyH_take (i := 2) (v := (.bool true)) ?hi2b (by kernel_rfl) (by kernel_rfl) (by kernel_rfl) ?hq2b (Or.inl ⟨?hw2b, ?hy2b⟩) (by assumption) ?hr2b
        case hi2b => (simp only [List.getElem?_toArray, List.getElem?_cons_zero, List.getElem?_cons_succ]; exact rfl)
        case hq2b => exact fun _ _ _ h => h
        case hw2b => rfl
        case hy2b => (intro wz hz; (try dsimp only at hz); go_simp)
        try simp only [Act.put, List.setIfInBounds_toArray, List.set_cons_zero, List.set_cons_succ]
        refine' wpAnyH_take (i := 3) (v := (.bool true)) ?hi3b (by kernel_rfl) (by kernel_rfl) (by kernel_rfl) ?hq3b (Or.inl ⟨?hw3b, ?hy3b⟩) (by assumption) ?hr3b
        case hi3b => (simp only [List.getElem?_toArray, List.getElem?_cons_zero, List.getElem?_cons_succ]; exact rfl)
        case hq3b => exact fun _ _ _ h => h
        case hw3b => rfl
        case hy3b => (intro wz hz; (try dsimp only at hz); go_simp)
        try simp only [Act.put, List.setIfInBounds_toArray, List.set_cons_zero, List.set_cons_succ]
        refine' wpAnyH_take (i := 4) (v := (.int .i64 0)) ?hi4b (by kernel_rfl) (by kernel_rfl) (by kernel_rfl) ?hq4b (Or.inl ⟨?hw4b, ?hy4b⟩) (by assumption) ?hr4b
        case hi4b => (simp only [List.getElem?_toArray, List.getElem?_cons_zero, List.getElem?_cons_succ]; exact rfl)
        case hq4b => exact fun _ _ _ h => h
        case hw4b => rfl
        case hy4b => (intro wz hz; (try dsimp only at hz); go_simp)
        try simp only [Act.put, List.setIfInBounds_toArray, List.set_cons_zero, List.set_cons_succ]
        refine' wpAnyH_take (i := 5) (v := (.bool true)) ?hi5b (by kernel_rfl) (by kernel_rfl) (by kernel_rfl) ?hq5b (Or.inl ⟨?hw5b, ?hy5b⟩) (by assumption) ?hr5b
        case hi5b => (simp only [List.getElem?_toArray, List.getElem?_cons_zero, List.getElem?_cons_succ]; exact rfl)
        case hq5b => exact fun _ _ _ h => h
        case hw5b => rfl
        case hy5b => (intro wz hz; (try dsimp only at hz); go_simp)
        try simp only [Act.put, List.setIfInBounds_toArray, List.set_cons_zero, List.set_cons_succ]
        refine' wpAnyH_take (i := 6) (v := (.bool true)) ?hi6b (by kernel_rfl) (by kernel_rfl) (by kernel_rfl) ?hq6b (Or.inl ⟨?hw6b, ?hy6b⟩) (by assumption) ?hr6b
        case hi6b => (simp only [List.getElem?_toArray, List.getElem?_cons_zero, List.getElem?_cons_succ]; exact rfl)
        case hq6b => exact fun _ _ _ h => h
        case hw6b => rfl
        case hy6b => (intro wz hz; (try dsimp only at hz); go_simp)
        try simp only [Act.put, List.setIfInBounds_toArray, List.set_cons_zero, List.set_cons_succ]
        refine' wpAnyH_take (i := 7) (v := (.bool true)) ?hi7b (by kernel_rfl) (by kernel_rfl) (by kernel_rfl) ?hq7b (Or.inl ⟨?hw7b, ?hy7b⟩) (by assumption) ?hr7b
        case hi7b => (simp only [List.getElem?_toArray, List.getElem?_cons_zero, List.getElem?_cons_succ]; exact rfl)
        case hq7b => exact fun _ _ _ h => h
        case hw7b => rfl
        case hy7b => (intro wz hz; (try dsimp only at hz); go_simp)
        try simp only [Act.put, List.setIfInBounds_toArray, List.set_cons_zero, List.set_cons_succ]
        refine' wpAnyH_take (i := 8) (v := (.agg #[.slice A n c, .slice A' n' c'])) ?hi8b (by kernel_rfl) (by kernel_rfl) (by kernel_rfl) ?hq8b (Or.inl ⟨?hw8b, ?hy8b⟩) (by assumption) ?hr8b
        case hi8b => (simp only [List.getElem?_toArray, List.getElem?_cons_zero, List.getElem?_cons_succ]; exact rfl)
        case hq8b => exact fun _ _ _ h => h
        case hw8b => rfl
        case hy8b => (intro wz hz; (try dsimp only at hz); go_simp)
        try simp only [Act.put, List.setIfInBounds_toArray, List.set_cons_zero, List.set_cons_succ]
        refine' wpAnyH_take (i := 9) (v := (.agg #[.int .i64 lb, .int .u64 cb])) ?hi9b (by kernel_rfl) (by kernel_rfl) (by kernel_rfl) ?hq9b (Or.inl ⟨?hw9b, ?hy9b⟩) (by assumption) ?hr9b
        case hi9b => (simp only [List.getElem?_toArray, List.getElem?_cons_zero, List.getElem?_cons_succ]; exact rfl)
        case hq9b => exact fun _ _ _ h => h
        case hw9b => rfl
        case hy9b => (intro wz hz; (try dsimp only at hz); go_simp)
        try simp only [Act.put, List.setIfInBounds_toArray, List.set_cons_zero, List.set_cons_succ]
        refine wpAnyH_ready (rs := [10]) (by kernel_rfl) (by simp) ?_
        refine AllReadyH.cons (o := ?hob) ?hiob (fun K hKK => ?_) AllReadyH.nil
        case hiob => (simp only [List.getElem?_toArray, List.getElem?_cons_zero, List.getElem?_cons_succ]; exact rfl)
        go_simp
        go_at_call 18
        refine (hN.out _ _ _ ?_).mono ?_
        · assumption
        rintro e w8 ⟨rfl, hS8⟩
        rw [Hx.out]
        refine hKK.out _ _ hS8 (fun hHeld8 => ?_)
        try simp only [Act.put, List.setIfInBounds_toArray, List.set_cons_zero, List.set_cons_succ]
        refine' wpAnyH_take (i := 11) (v := (.bool true)) ?hi11b (by kernel_rfl) (by kernel_rfl) (by kernel_rfl) ?hq11b (Or.inl ⟨?hw11b, ?hy11b⟩) (by assumption) ?hr11b
        case hi11b => (simp only [List.getElem?_toArray, List.getElem?_cons_zero, List.getElem?_cons_succ]; exact rfl)
        case hq11b => exact fun _ _ _ h => h
        case hw11b => rfl
        case hy11b => (intro wz hz; (try dsimp only at hz); go_simp)
        try simp only [Act.put, List.setIfInBounds_toArray, List.set_cons_zero, List.set_cons_succ]
        refine' wpAnyH_take (i := 12) (v := (.bool true)) ?hi12b (by kernel_rfl) (by kernel_rfl) (by kernel_rfl) ?hq12b (Or.inl ⟨?hw12b, ?hy12b⟩) (by assumption) ?hr12b
        case hi12b => (simp only [List.getElem?_toArray, List.getElem?_cons_zero, List.getElem?_cons_succ]; exact rfl)
        case hq12b => exact fun _ _ _ h => h
        case hw12b => rfl
        case hy12b => (intro wz hz; (try dsimp only at hz); go_simp)
        try simp only [Act.put, List.setIfInBounds_toArray, List.set_cons_zero, List.set_cons_succ]
        refine' wpAnyH_take (i := 13) (v := undef) ?hi13b (by kernel_rfl) (by kernel_rfl) (by kernel_rfl) ?hq13b (Or.inr ⟨?hw13b, rfl⟩) (by assumption) ?hr13b
        case hi13b => (simp only [List.getElem?_toArray, List.getElem?_cons_zero, List.getElem?_cons_succ]; exact rfl)
        case hq13b => exact fun _ _ _ h => h
        case hw13b => rfl
        try simp only [Act.put, List.setIfInBounds_toArray, List.set_cons_zero, List.set_cons_succ]
        refine' wpAnyH_take (i := 14) (v := undef) ?hi14b (by kernel_rfl) (by kernel_rfl) (by kernel_rfl) ?hq14b (Or.inr ⟨?hw14b, rfl⟩) (by assumption) ?hr14b
        case hi14b => (simp only [List.getElem?_toArray, List.getElem?_cons_zero, List.getElem?_cons_succ]; exact rfl)
        case hq14b => exact fun _ _ _ h => h
        case hw14b => rfl
        try simp only [Act.put, List.setIfInBounds_toArray, List.set_cons_zero, List.set_cons_succ]
        refine' wpAnyH_take (i := 15) (v := undef) ?hi15b (by kernel_rfl) (by kernel_rfl) (by kernel_rfl) ?hq15b (Or.inr ⟨?hw15b, rfl⟩) (by assumption) ?hr15b
        case hi15b => (simp only [List.getElem?_toArray, List.getElem?_cons_zero, List.getElem?_cons_succ]; exact rfl)
        case hq15b => exact fun _ _ _ h => h
        case hw15b => rfl
        try simp only [Act.put, List.setIfInBounds_toArray, List.set_cons_zero, List.set_cons_succ]
        refine' wpAnyH_take (i := 16) (v := undef) ?hi16b (by kernel_rfl) (by kernel_rfl) (by kernel_rfl) ?hq16b (Or.inr ⟨?hw16b, rfl⟩) (by assumption) ?hr16b
        case hi16b => (simp only [List.getElem?_toArray, List.getElem?_cons_zero, List.getElem?_cons_succ]; exact rfl)
        case hq16b => exact fun _ _ _ h => h
        case hw16b => rfl
        try simp only [Act.put, List.setIfInBounds_toArray, List.set_cons_zero, List.set_cons_succ]
        refine' wpAnyH_take (i := 17) (v := undef) ?hi17b (by kernel_rfl) (by kernel_rfl) (by kernel_rfl) ?hq17b (Or.inr ⟨?hw17b, rfl⟩) (by assumption) ?hr17b
        case hi17b => (simp only [List.getElem?_toArray, List.getElem?_cons_zero, List.getElem?_cons_succ]; exact rfl)
        case hq17b => exact fun _ _ _ h => h
        case hw17b => rfl
        try simp only [Act.put, List.setIfInBounds_toArray, List.set_cons_zero, List.set_cons_succ]
        refine' wpAnyH_take (i := 18) (v := undef) ?hi18b (by kernel_rfl) (by kernel_rfl) (by kernel_rfl) ?hq18b (Or.inr ⟨?hw18b, rfl⟩) (by assumption) ?hr18b
        case hi18b => (simp only [List.getElem?_toArray, List.getElem?_cons_zero, List.getElem?_cons_succ]; exact rfl)
        case hq18b => exact fun _ _ _ h => h
        case hw18b => rfl
        try simp only [Act.put, List.setIfInBounds_toArray, List.set_cons_zero, List.set_cons_succ]
        refine' wpAnyH_take (i := 19) (v := undef) ?hi19b (by kernel_rfl) (by kernel_rfl) (by kernel_rfl) ?hq19b (Or.inr ⟨?hw19b, rfl⟩) (by assumption) ?hr19b
        case hi19b => (simp only [List.getElem?_toArray, List.getElem?_cons_zero, List.getElem?_cons_succ]; exact rfl)
        case hq19b => exact fun _ _ _ h => h
        case hw19b => rfl
        try simp only [Act.put, List.setIfInBounds_toArray, List.set_cons_zero, List.set_cons_succ]
        refine' wpAnyH_take (i := 20) (v := undef) ?hi20b (by kernel_rfl) (by kernel_rfl) (by kernel_rfl) ?hq20b (Or.inr ⟨?hw20b, rfl⟩) (by assumption) ?hr20b
        case hi20b => (simp only [List.getElem?_toArray, List.getElem?_cons_zero, List.getElem?_cons_succ]; exact rfl)
        case hq20b => exact fun _ _ _ h => h
        case hw20b => rfl
        try simp only [Act.put, List.setIfInBounds_toArray, List.set_cons_zero, List.set_cons_succ]
        refine' wpAnyH_take (i := 21) (v := undef) ?hi21b (by kernel_rfl) (by kernel_rfl) (by kernel_rfl) ?hq21b (Or.inr ⟨?hw21b, rfl⟩) (by assumption) ?hr21b
        case hi21b => (simp only [List.getElem?_toArray, List.getElem?_cons_zero, List.getElem?_cons_succ]; exact rfl)
        case hq21b => exact fun _ _ _ h => h
        case hw21b => rfl
        try simp only [Act.put, List.setIfInBounds_toArray, List.set_cons_zero, List.set_cons_succ]
        refine' wpAnyH_take (i := 22) (v := undef) ?hi22b (by kernel_rfl) (by kernel_rfl) (by kernel_rfl) ?hq22b (Or.inr ⟨?hw22b, rfl⟩) (by assumption) ?hr22b
        case hi22b => (simp only [List.getElem?_toArray, List.getElem?_cons_zero, List.getElem?_cons_succ]; exact rfl)
        case hq22b => exact fun _ _ _ h => h
        case hw22b => rfl
        try simp only [Act.put, List.setIfInBounds_toArray, List.set_cons_zero, List.set_cons_succ]
        refine' wpAnyH_take (i := 23) (v := undef) ?hi23b (by kernel_rfl) (by kernel_rfl) (by kernel_rfl) ?hq23b (Or.inr ⟨?hw23b, rfl⟩) (by assumption) ?hr23b
        case hi23b => (simp only [List.getElem?_toArray, List.getElem?_cons_zero, List.getElem?_cons_succ]; exact rfl)
        case hq23b => exact fun _ _ _ h => h
        case hw23b => rfl
        try simp only [Act.put, List.setIfInBounds_toArray, List.set_cons_zero, List.set_cons_succ]
        refine' wpAnyH_take (i := 24) (v := undef) ?hi24b (by kernel_rfl) (by kernel_rfl) (by kernel_rfl) ?hq24b (Or.inr ⟨?hw24b, rfl⟩) (by assumption) ?hr24b
        case hi24b => (simp only [List.getElem?_toArray, List.getElem?_cons_zero, List.getElem?_cons_succ]; exact rfl)
        case hq24b => exact fun _ _ _ h => h
        case hw24b => rfl
        try simp only [Act.put, List.setIfInBounds_toArray, List.set_cons_zero, List.set_cons_succ]
        refine' wpAnyH_take (i := 25) (v := (.bool true)) ?hi25b (by kernel_rfl) (by kernel_rfl) (by kernel_rfl) ?hq25b (Or.inl ⟨?hw25b, ?hy25b⟩) (by assumption) ?hr25b
        case hi25b => (simp only [List.getElem?_toArray, List.getElem?_cons_zero, List.getElem?_cons_succ]; exact rfl)
        case hq25b => exact fun _ _ _ h => h
        case hw25b => rfl
        case hy25b => (intro wz hz; (try dsimp only at hz); go_simp)
        try simp only [Act.put, List.setIfInBounds_toArray, List.set_cons_zero, List.set_cons_succ]
        refine' wpAnyH_take (i := 26) (v := (.bool true)) ?hi26b (by kernel_rfl) (by kernel_rfl) (by kernel_rfl) ?hq26b (Or.inl ⟨?hw26b, ?hy26b⟩) (by assumption) ?hr26b
        case hi26b => (simp only [List.getElem?_toArray, List.getElem?_cons_zero, List.getElem?_cons_succ]; exact rfl)
        case hq26b => exact fun _ _ _ h => h
        case hw26b => rfl
        case hy26b => (intro wz hz; (try dsimp only at hz); go_simp)
        try simp only [Act.put, List.setIfInBounds_toArray, List.set_cons_zero, List.set_cons_succ]
        refine' wpAnyH_take (i := 27) (v := (.bool true)) ?hi27b (by kernel_rfl) (by kernel_rfl) (by kernel_rfl) ?hq27b (Or.inl ⟨?hw27b, ?hy27b⟩) (by assumption) ?hr27b
        case hi27b => (simp only [List.getElem?_toArray, List.getElem?_cons_zero, List.getElem?_cons_succ]; exact rfl)
        case hq27b => exact fun _ _ _ h => h
        case hw27b => rfl
        case hy27b => (intro wz hz; (try dsimp only at hz); go_simp)
        try simp only [Act.put, List.setIfInBounds_toArray, List.set_cons_zero, List.set_cons_succ]
        refine wpAnyH_done (by kernel_rfl) ?_ _
        have hBv := hS8.2.2.2.2.2.2.2.2
        go_wp2
        go_ret
        exact ⟨rfl, hwv.trans (hBv.mono (by omega))⟩
      case true =>
        have Hj1 := Lib.hid (Hj.out rfl)
        have Hm1 := Lib.hid (Hm.out rfl)
        clear Hj Hm
        go_region_held3 (fun W => W.cell? ⟨w.heap.size + 1, 0, none⟩ = some (.int .i64 la) ∧ W.cell? ⟨w.heap.size + 1, 1, none⟩ = some (.int .u64 ca) ∧ W.cell? ⟨w.heap.size + 1 + 1, 0, none⟩ = some (.int .i64 lb) ∧ W.cell? ⟨w.heap.size + 1 + 1, 1, none⟩ = some (.int .u64 cb) ∧ W.cell? ⟨w.heap.size, 0, none⟩ = some (.slice A n c) ∧ W.cell? ⟨w.heap.size, 1, none⟩ = some (.slice A' n' c') ∧ W.cell? ⟨w7.heap.size, 0, none⟩ = some (.int .i64 la) ∧ W.cell? ⟨w7.heap.size, 1, none⟩ = some (.int .u64 ca) ∧ Below v.heap.size v W)
          (first | assumption | exact hDr.out _ (by assumption) | (trace_state; fail))
          (first
            | (go_at_call 22; refine (hJ.out _ _ _ _ _ ?_).mono ?_; assumption; rintro e w8 ⟨rfl, hS8⟩)
            | (go_at_call 24; refine (hM.out _ _ _ _ _ ?_).mono ?_; assumption; rintro e w8 ⟨rfl, hS8⟩)
            | (go_at_call 18; refine (hN.out _ _ _ ?_).mono ?_; assumption; rintro e w8 ⟨rfl, hS8⟩; (first | rw [Hx.out] | rw [Hj1.out] | rw [Hm1.out])))
        all_goals
          rename_i hS
          have hBv := hS.2.2.2.2.2.2.2.2
          go_wp2
          go_ret
          exact ⟨rfl, hwv.trans (hBv.mono (by omega))⟩
    · rw [hpa]
      have Hha := Lib.hid hha
      clear hpa hha
      go_wp2_with fail
      refine (in_any B n c n' c' A A' ss ss' la ca wp (by omega) s1 s2 Hsz.out).mono ?_
      rintro e w7 ⟨rfl, hb7⟩
      rw [Hha.out]
      have hb7' := hbp'.trans (hb7.mono hzp)
      obtain ⟨_, _, _, _, _, _, _, _, _, hw7⟩ := hK.out _ hb7'
      go_wp2
      go_ret
      exact ⟨rfl, hw7⟩
end Go.Proofs.YtkjiaklpffnhlaaDoor
