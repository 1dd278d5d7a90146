/-
  The document's answer of layer 1, written in Go: is a label one of a lattice, and its text? Told by the plain functions that tell the program.
-/
import Derived.Test.YtkjiaklpffnhlaaDoorRef3
import Derived.Test.YtkjiaklpffnhlaaDoorBackH
namespace Go.Proofs.YtkjiaklpffnhlaaDoor
open Go.RowKit

/-- No bit from a on, below b. -/
def NoBits (K a b : Nat) : Prop := ∀ j, a ≤ j → j < b → K.testBit j = false
theorem noBits_lt {K n : Nat} (hK : K < 18446744073709551616) (h : NoBits K n 64) : K < 2 ^ n := by
  refine Nat.lt_pow_two_of_testBit K fun i hi => ?_
  rcases Nat.lt_or_ge i 64 with h1 | h1
  · exact h i hi h1
  · exact Nat.testBit_lt_two_pow (Nat.lt_of_lt_of_le hK (Nat.pow_le_pow_right (n := 2) (by omega) h1))
theorem bit_ge {K n k : Nat} (hk : n ≤ k) (h : K.testBit k = true) : ¬ K < 2 ^ n := fun hl => by
  rw [Nat.testBit_lt_two_pow (Nat.lt_of_lt_of_le hl (Nat.pow_le_pow_right (n := 2) (by omega) hk))] at h
  cases h

set_option maxHeartbeats 2000000 in
set_option maxRecDepth 100000 in
theorem rin_any (B n c n' c' : Nat) (A A' : Option Addr) (ss ss' : List ByteArray) (l : Int) (K : Nat) (w : World) (hB : B ≤ w.heap.size) (h1 : Strs w B A n c ss) (h2 : Strs w B A' n' c' ss') (hsz : ∀ s ∈ ss ++ ss', s.size ≤ maxLen) (hK : K < 18446744073709551616) :
    Calls Tryd.prog 19 #[.agg #[.slice A n c, .slice A' n' c'], .agg #[.int .i64 l, .int .u64 K]] w fun e w' => e = .returned (.bool (rightB ss ss' && hasB n n' l K)) ∧ Below w.heap.size w w' := by
  have hb0 : Below w.heap.size w ((w.alloc (.cells #[.slice A n c, .slice A' n' c'] 24)).alloc (.cells #[.int .i64 l, .int .u64 K] 27)) := ((Below.refl _ _).alloc (Nat.le_refl _) _).alloc (by simp) _
  have hl2 := h2.len
  cases hr : rightB ss ss' with
  | false =>
    rw [Bool.false_and]
    have Hr := Lib.hid hr
    clear hr hl2
    go_enter Tryd.func19, Tryd.ntmps19
    go_wp2_with fail
    refine (rright_any B n c n' c' A A' ss ss' _ (by simp; omega) ((h1.alloc hB _).alloc (by simp; omega) _) ((h2.alloc hB _).alloc (by simp; omega) _) hsz).mono ?_
    rintro e w1 ⟨rfl, hb1⟩
    rw [Hr.out]
    go_wp2
    go_ret
    exact ⟨rfl, hb0.trans (hb1.mono (by simp; omega))⟩
  | true =>
    rw [Bool.true_and]
    have hc64 : n' ≤ 64 := by rw [← hl2]; exact right_comps hr
    have hyes : NoBits K n' 64 → 0 ≤ l → l < n → hasB n n' l K = true := fun h h3 h4 => (has_iff hc64).2 ⟨⟨h3, h4⟩, noBits_lt hK h⟩
    have hno : (l < 0 ∨ (n : Int) ≤ l) → hasB n n' l K = false := fun h => by
      cases hh : hasB n n' l K with
      | false => rfl
      | true => have := (has_iff hc64).1 hh; omega
    have hno2 : ∀ k, n' ≤ k → K.testBit k = true → hasB n n' l K = false := fun k hk hb => by
      cases hh : hasB n n' l K with
      | false => rfl
      | true => exact absurd ((has_iff hc64).1 hh).2 (bit_ge hk hb)
    have Hr := Lib.hid hr
    have Hyes := Lib.hid hyes
    have Hno := Lib.hid hno
    have Hno2 := Lib.hid hno2
    clear hr hyes hno hno2 hl2
    go_enter Tryd.func19, Tryd.ntmps19
    go_wp2_with fail
    refine (rright_any B n c n' c' A A' ss ss' _ (by simp; omega) ((h1.alloc hB _).alloc (by simp; omega) _) ((h2.alloc hB _).alloc (by simp; omega) _) hsz).mono ?_
    rintro e w1 ⟨rfl, hb1⟩
    rw [Hr.out]
    have d0 : w1.cell? ⟨w.heap.size, 0, none⟩ = some (.slice A n c) := by rw [hb1.cell (by simp; omega)]; go_simp
    have d1 : w1.cell? ⟨w.heap.size, 1, none⟩ = some (.slice A' n' c') := by rw [hb1.cell (by simp; omega)]; go_simp
    have d2 : w1.cell? ⟨w.heap.size + 1, 0, none⟩ = some (.int .i64 l) := by rw [hb1.cell (by simp)]; go_simp
    have d3 : w1.cell? ⟨w.heap.size + 1, 1, none⟩ = some (.int .u64 K) := by rw [hb1.cell (by simp)]; go_simp
    have hz1 : w.heap.size + 2 ≤ w1.heap.size := by have := hb1.size; simp at this; omega
    have hbw : Below w.heap.size w w1 := hb0.trans (hb1.mono (by simp; omega))
    clear hb1 hb0 h1 h2
    by_cases p1 : 0 ≤ l
    case neg =>
      have Hf := Lib.hid (Hno.out (.inl (by omega)))
      go_wp2
      go_ret
      exact ⟨by rw [Hf.out]; rfl, hbw⟩
    by_cases p2 : l < n
    case neg =>
      have Hf := Lib.hid (Hno.out (.inr (by omega)))
      go_wp2
      go_ret
      exact ⟨by rw [Hf.out]; rfl, hbw⟩
    go_wp2
    go_loopw [5] (fun i wr => ∃ k : Nat, n' ≤ k ∧ k ≤ 64 ∧ i = .int .i64 k ∧ NoBits K n' k ∧ Below w1.heap.size w1 wr) (fun i _ => 64 - (intOf i).toNat)
    case atStart => exact ⟨n', Nat.le_refl _, hc64, rfl, fun j h3 h4 => by omega, Below.refl _ _⟩
    case round =>
      obtain ⟨k, hk0, hk, rfl, hnb, hbr⟩ := hrel
      have e2 := (hbr.cell (p := ⟨w.heap.size + 1, 0, none⟩) (by simp; omega)).trans d2
      have e3 := (hbr.cell (p := ⟨w.heap.size + 1, 1, none⟩) (by simp; omega)).trans d3
      have hwr := hbw.trans (hbr.mono (by omega))
      have hzr := hbr.size
      have Hnb := Lib.hid hnb
      clear hnb
      by_cases hlt : k < 64
      · obtain ⟨x, hx⟩ : ∃ x, K.testBit k = x := ⟨_, rfl⟩
        have Hx := Lib.hid hx
        clear hx
        go_wp2_with fail
        refine (rhas_any l K k _ hlt).mono ?_
        rintro e w2 ⟨rfl, hb2⟩
        rw [Hx.out]
        have hb2' := hbr.trans (hb2.mono hzr)
        have hw2 := hwr.trans (hb2.mono hwr.size)
        cases x
        · go_wp2
          go_roundw
          case rel =>
            refine ⟨k + 1, by omega, by omega, by go_num, ?_, hb2'⟩
            intro j h3 h4
            rcases Nat.lt_or_ge j k with h5 | h5
            · exact Hnb.out j h3 h5
            · have : j = k := by omega
              rw [this]
              exact Hx.out
          case measure => simp [intOf]; omega
        · have Hf := Lib.hid (Hno2.out k hk0 Hx.out)
          go_wp2
          go_ret
          exact ⟨by rw [Hf.out]; rfl, hw2⟩
      · obtain rfl : k = 64 := by omega
        have Hf := Lib.hid (Hyes.out Hnb.out p1 p2)
        go_wp2
        go_ret
        exact ⟨by rw [Hf.out]; rfl, hwr⟩

/-- What the printing loop has made so far. -/
def soFar (x : ByteArray) (cs : List ByteArray) (K i : Nat) : ByteArray := ⟨(x.data.toList ++ tailT cs K i).toArray⟩
theorem soFar_zero (x : ByteArray) (cs : List ByteArray) (K : Nat) : soFar x cs K 0 = x := by
  unfold soFar
  rw [tailT, List.append_nil]
theorem soFar_len {x : ByteArray} {cs : List ByteArray} (hx : x.size ≤ 16) (hsz : ∀ s ∈ cs, s.size ≤ 16) (K : Nat) {i : Nat} (hi : i ≤ 64) : (soFar x cs K i).size ≤ 1168 := by
  have := tailT_len hsz K i
  show (x.data.toList ++ tailT cs K i).length ≤ 1168
  have h2 : x.data.toList.length = x.size := rfl
  rw [List.length_append, h2]
  omega
theorem soFar_no {x : ByteArray} {cs : List ByteArray} {K i : Nat} (hK : K < 18446744073709551616) (h : K.testBit i = false) : soFar x cs K (i + 1) = soFar x cs K i ∧ (tailT cs K (i + 1) = [] ↔ tailT cs K i = []) := by
  have hb : bitB K i = false := by rw [bit_nat K i hK, ← test_div, h]
  unfold soFar
  rw [tailT_no hb]
  exact ⟨rfl, Iff.rfl⟩
theorem bytes_cat (x y : List UInt8) : (⟨x.toArray⟩ : ByteArray) ++ ⟨y.toArray⟩ = ⟨(x ++ y).toArray⟩ := by
  apply ByteArray.ext
  simp
theorem soFar_yes {x : ByteArray} {cs : List ByteArray} {K i : Nat} (hK : K < 18446744073709551616) (h : K.testBit i = true) : tailT cs K (i + 1) ≠ [] ∧
    (tailT cs K i = [] → soFar x cs K (i + 1) = soFar x cs K i ++ ⟨#[47]⟩ ++ ⟨#[47]⟩ ++ cs.getD i ByteArray.empty) ∧ (tailT cs K i ≠ [] → soFar x cs K (i + 1) = soFar x cs K i ++ ⟨#[47]⟩ ++ cs.getD i ByteArray.empty) := by
  have hb : bitB K i = true := by rw [bit_nat K i hK, ← test_div, h]
  have hy : (⟨(cs.getD i ByteArray.empty).data.toList.toArray⟩ : ByteArray) = cs.getD i ByteArray.empty := by
    cases cs.getD i ByteArray.empty with
    | mk d => simp
  have h47 : (⟨#[47]⟩ : ByteArray) = ⟨([47] : List UInt8).toArray⟩ := rfl
  unfold soFar
  rw [tailT_yes hb]
  refine ⟨by split <;> simp, fun h0 => ?_, fun h0 => ?_⟩
  · rw [if_pos h0, h0, ← hy, h47, bytes_cat, bytes_cat, bytes_cat]
    simp
  · rw [if_neg h0, ← hy, h47, bytes_cat, bytes_cat]
    simp
end Go.Proofs.YtkjiaklpffnhlaaDoor
