/-
  The document's answer of layer 1, written in Go, told by the plain functions that tell the program: names, bits, dominance.
-/
import Derived.Test.YtkjiaklpffnhlaaDoorName
import Derived.Test.YtkjiaklpffnhlaaDoorHas
import Derived.Test.YtkjiaklpffnhlaaDoorDomF
import Derived.Deep.LoopGhost
namespace Go.Proofs.YtkjiaklpffnhlaaDoor
open Go.RowKit

theorem ok_ways (c : Int) : (65 ≤ c ∧ c ≤ 90 ∧ okB c = true) ∨ (65 ≤ c ∧ ¬ c ≤ 90 ∧ 48 ≤ c ∧ ¬ c ≤ 57 ∧ (c == 45) = false ∧ okB c = false) ∨ (¬ 65 ≤ c ∧ 48 ≤ c ∧ c ≤ 57 ∧ okB c = true) ∨ (¬ 65 ≤ c ∧ 48 ≤ c ∧ ¬ c ≤ 57 ∧ (c == 45) = false ∧ okB c = false) ∨ (¬ 65 ≤ c ∧ ¬ 48 ≤ c ∧ (c == 45) = true ∧ okB c = true) ∨ (¬ 65 ≤ c ∧ ¬ 48 ≤ c ∧ (c == 45) = false ∧ okB c = false) := by
  by_cases h1 : 65 ≤ c <;> by_cases h2 : c ≤ 90 <;> by_cases h3 : 48 ≤ c <;> by_cases h4 : c ≤ 57 <;> by_cases h5 : c = 45
  all_goals first
    | (exfalso; omega)
    | (simp [okB, h1, h2, h3, h4, h5]; done)

set_option maxRecDepth 100000 in
set_option maxHeartbeats 2000000 in
theorem rname_any (s : ByteArray) (w : World) (hs : s.size ≤ maxLen) :
    Calls Tryd.prog 45 #[.string s] w fun e w' => e = .returned (.bool (nameB s.data.toList)) ∧ w' = w := by
  unfold maxLen at hs
  go_enter Tryd.func45, Tryd.ntmps45
  go_wp2
  go_loop [3, 4] (fun i _ => ∃ k : Nat, k ≤ s.size ∧ i = .int .i64 k ∧ allOk (s.data.toList.take k) = true) (fun i _ => s.size - (intOf i).toNat)
  case atStart => exact ⟨0, Nat.zero_le _, rfl, rfl⟩
  case round =>
    obtain ⟨k, hk, rfl, hall⟩ := hrel
    have Hall := Lib.hid hall
    clear hall
    by_cases hlt : k < s.size
    · have ht := allOk_succ s.data.toList k (by simpa using hlt)
      rw [Hall.out] at ht
      have eg : s.data.toList[k]'(by simpa using hlt) = s[k] := rfl
      rw [eg] at ht
      have hno : okB s[k].toNat = false → nameB s.data.toList = false := fun h => by
        have hf : allOk s.data.toList = false := allOk_no _ k (by simpa using hlt) (by rw [eg]; exact h)
        unfold nameB
        rw [hf, Bool.and_false]
      have Ht := Lib.hid ht
      have Hno := Lib.hid hno
      clear ht eg hno
      rcases ok_ways (s[k].toNat : Int) with ⟨h1, h2, h3⟩ | ⟨h1, h2, h3, h4, h5, h6⟩ | ⟨h1, h2, h3, h4⟩ | ⟨h1, h2, h3, h4, h5⟩ | ⟨h1, h2, h3, h4⟩ | ⟨h1, h2, h3, h4⟩
      · have Hok := Lib.hid h3
        clear h3
        go_wp2
        go_round
        case rel => exact ⟨k + 1, by omega, by go_num, by rw [Ht.out, Hok.out]; rfl⟩
        case measure => simp [intOf]; omega
      · have Hok := Lib.hid h6
        clear h6
        go_wp2
        go_ret
        exact ⟨by rw [Hno.out Hok.out]; rfl, rfl⟩
      · have Hok := Lib.hid h4
        clear h4
        go_wp2
        go_round
        case rel => exact ⟨k + 1, by omega, by go_num, by rw [Ht.out, Hok.out]; rfl⟩
        case measure => simp [intOf]; omega
      · have Hok := Lib.hid h5
        clear h5
        go_wp2
        go_ret
        exact ⟨by rw [Hno.out Hok.out]; rfl, rfl⟩
      · have Hok := Lib.hid h4
        clear h4
        go_wp2
        go_round
        case rel => exact ⟨k + 1, by omega, by go_num, by rw [Ht.out, Hok.out]; rfl⟩
        case measure => simp [intOf]; omega
      · have Hok := Lib.hid h4
        clear h4
        go_wp2
        go_ret
        exact ⟨by rw [Hno.out Hok.out]; rfl, rfl⟩
    · have hfin : nameB s.data.toList = (decide (1 ≤ s.size) && decide (s.size ≤ 16)) := by
        have := Hall.out
        rw [List.take_of_length_le (by simp; omega)] at this
        unfold nameB
        rw [this, Bool.and_true]
        rfl
      by_cases h1 : 1 ≤ s.size
      · have Hf : Hid (nameB s.data.toList = decide ((s.size : Int) ≤ 16)) := Lib.hid (by
          rw [hfin, decide_eq_true h1, Bool.true_and]
          exact decide_eq_decide.2 (by omega))
        clear hfin
        go_wp2
        go_ret
        exact ⟨by rw [Hf.out]; rfl, rfl⟩
      · have Hf : Hid (nameB s.data.toList = false) := Lib.hid (by rw [hfin]; simp [h1])
        clear hfin
        go_wp2
        go_ret
        exact ⟨by rw [Hf.out]; rfl, rfl⟩

theorem test_div (K i : Nat) : K.testBit i = decide (K / 2 ^ i % 2 = 1) := Nat.testBit_eq_decide_div_mod_eq
set_option maxRecDepth 100000 in
set_option maxHeartbeats 1000000 in
theorem rhas_any (l : Int) (K i : Nat) (w : World) (hi : i < 64) :
    Calls Tryd.prog 39 #[.agg #[.int .i64 l, .int .u64 K], .int .i64 i] w fun e w' => e = .returned (.bool (K.testBit i)) ∧ Below w.heap.size w w' := by
  have hw : IntKind.u64.wrap (i : Int) = i := by rw [IntKind.wrap_u64]; omega
  have hv : (((K : Int) / 2 ^ i).tmod 2 == 1) = K.testBit i := by
    have e : ((K : Int) / 2 ^ i) = ((K / 2 ^ i : Nat) : Int) := by push_cast; rfl
    rw [test_div, e, Int.tmod_eq_emod_of_nonneg (Int.natCast_nonneg _)]
    generalize K / 2 ^ i = x
    by_cases h : x % 2 = 1
    · have h2 : (x : Int) % 2 = 1 := by omega
      simp [h, h2]
    · have h2 : (x : Int) % 2 = 0 := by omega
      simp [h, h2]
  have Hv := Lib.hid hv
  clear hv
  go_enter Tryd.func39, Tryd.ntmps39
  go_wp2
  go_ret
  exact ⟨by rw [← Hv.out]; rfl, (Below.refl _ _).alloc (Nat.le_refl _) _⟩

set_option maxRecDepth 100000 in
set_option maxHeartbeats 1000000 in
theorem rbit_any (i : Nat) (w : World) (hi : i < 64) :
    Calls Tryd.prog 42 #[.int .i64 i] w fun e w' => e = .returned (.int .u64 ((2 ^ i : Nat) : Int)) ∧ w' = w := by
  have hw : IntKind.u64.wrap (i : Int) = i := by rw [IntKind.wrap_u64]; omega
  have hv : IntKind.u64.wrap ((2 : Int) ^ i) = ((2 ^ i : Nat) : Int) := by
    have hpi : ((2 ^ i : Nat) : Int) = (2 : Int) ^ i := by push_cast; rfl
    have hp : 2 ^ i < 18446744073709551616 := Nat.pow_lt_pow_right (a := 2) (by omega) hi
    rw [IntKind.wrap_u64, ← hpi]
    exact Int.emod_eq_of_lt (Int.natCast_nonneg _) (by omega)
  have Hv := Lib.hid hv
  clear hv
  go_enter Tryd.func42, Tryd.ntmps42
  go_wp2
  go_ret
  exact ⟨by rw [← Hv.out]; rfl, rfl⟩

/-- Of the lowest k bits, each that b has, a has. -/
def DomTo (a b k : Nat) : Prop := ∀ j, j < k → b.testBit j = true → a.testBit j = true
theorem dom_to {la lb : Int} {a b : Nat} (ha : a < 18446744073709551616) (hb : b < 18446744073709551616) (h : DomTo a b 64) : domB la a lb b = decide (lb ≤ la) := by
  rw [Bool.eq_iff_iff, dom_iff (by omega) (by omega) (by omega) (by omega), decide_eq_true_eq]
  refine ⟨fun h => h.1, fun hl => ⟨hl, fun i hi => ?_⟩⟩
  simp only [Int.toNat_natCast] at hi ⊢
  rcases Nat.lt_or_ge i 64 with h1 | h1
  · exact h i h1 hi
  · rw [Nat.testBit_lt_two_pow (Nat.lt_of_lt_of_le hb (Nat.pow_le_pow_right (n := 2) (by omega) h1))] at hi
    cases hi
theorem dom_not {la lb : Int} {a b k : Nat} (ha : a < 18446744073709551616) (hb : b < 18446744073709551616) (h1 : b.testBit k = true) (h2 : a.testBit k = false) : domB la a lb b = false := by
  cases hd : domB la a lb b with
  | false => rfl
  | true =>
    have := ((dom_iff (by omega) (by omega) (by omega) (by omega)).1 hd).2 k (by simpa using h1)
    simp only [Int.toNat_natCast] at this
    rw [h2] at this
    cases this
theorem domTo_succ {a b k : Nat} (h : DomTo a b k) (hk : b.testBit k = false ∨ a.testBit k = true) : DomTo a b (k + 1) := fun j hj hb => by
  rcases Nat.lt_or_ge j k with h1 | h1
  · exact h j h1 hb
  · have : j = k := by omega
    subst this
    rcases hk with h2 | h2
    · rw [h2] at hb; cases hb
    · exact h2

set_option maxRecDepth 100000 in
set_option maxHeartbeats 2000000 in
theorem rdom_any (la lb : Int) (a b : Nat) (w : World) (ha : a < 18446744073709551616) (hb : b < 18446744073709551616) :
    Calls Tryd.prog 21 #[.agg #[.int .i64 la, .int .u64 a], .agg #[.int .i64 lb, .int .u64 b]] w fun e w' => e = .returned (.bool (domB la a lb b)) ∧ Below w.heap.size w w' := by
  have hto : DomTo a b 64 → domB la a lb b = decide (lb ≤ la) := dom_to ha hb
  have hnt : ∀ k, b.testBit k = true → a.testBit k = false → domB la a lb b = false := fun k => dom_not ha hb
  have hbw : Below w.heap.size w ((w.alloc (.cells #[.int .i64 la, .int .u64 a] 27)).alloc (.cells #[.int .i64 lb, .int .u64 b] 27)) := ((Below.refl _ _).alloc (Nat.le_refl _) _).alloc (by simp) _
  have Hto := Lib.hid hto
  have Hnt := Lib.hid hnt
  clear hto hnt
  go_enter Tryd.func21, Tryd.ntmps21
  go_wp2
  have a0 : ((w.alloc (.cells #[.int .i64 la, .int .u64 a] 27)).alloc (.cells #[.int .i64 lb, .int .u64 b] 27)).cell? ⟨w.heap.size, 0, none⟩ = some (.int .i64 la) := by go_simp
  have a1 : ((w.alloc (.cells #[.int .i64 la, .int .u64 a] 27)).alloc (.cells #[.int .i64 lb, .int .u64 b] 27)).cell? ⟨w.heap.size, 1, none⟩ = some (.int .u64 a) := by go_simp
  have b0 : ((w.alloc (.cells #[.int .i64 la, .int .u64 a] 27)).alloc (.cells #[.int .i64 lb, .int .u64 b] 27)).cell? ⟨w.heap.size + 1, 0, none⟩ = some (.int .i64 lb) := by go_simp
  have b1 : ((w.alloc (.cells #[.int .i64 la, .int .u64 a] 27)).alloc (.cells #[.int .i64 lb, .int .u64 b] 27)).cell? ⟨w.heap.size + 1, 1, none⟩ = some (.int .u64 b) := by go_simp
  have hz : ((w.alloc (.cells #[.int .i64 la, .int .u64 a] 27)).alloc (.cells #[.int .i64 lb, .int .u64 b] 27)).heap.size = w.heap.size + 2 := by simp
  revert hbw a0 a1 b0 b1 hz
  generalize ((w.alloc (.cells #[.int .i64 la, .int .u64 a] 27)).alloc (.cells #[.int .i64 lb, .int .u64 b] 27)) = w0
  intro hbw a0 a1 b0 b1 hz
  have hK : Hid (∀ W, Below w0.heap.size w0 W → W.cell? ⟨w.heap.size, 0, none⟩ = some (.int .i64 la) ∧ W.cell? ⟨w.heap.size, 1, none⟩ = some (.int .u64 a) ∧ W.cell? ⟨w.heap.size + 1, 0, none⟩ = some (.int .i64 lb) ∧ W.cell? ⟨w.heap.size + 1, 1, none⟩ = some (.int .u64 b) ∧ Below w.heap.size w W) := Lib.hid fun W hb =>
    ⟨(hb.cell (p := ⟨w.heap.size, 0, none⟩) (by simp; omega)).trans a0, (hb.cell (p := ⟨w.heap.size, 1, none⟩) (by simp; omega)).trans a1, (hb.cell (p := ⟨w.heap.size + 1, 0, none⟩) (by simp; omega)).trans b0, (hb.cell (p := ⟨w.heap.size + 1, 1, none⟩) (by simp; omega)).trans b1, hbw.trans (hb.mono (by omega))⟩
  clear a0 a1 b0 b1 hbw
  go_loopw [5] (fun i wr => ∃ k : Nat, k ≤ 64 ∧ i = .int .i64 k ∧ DomTo a b k ∧ Below w0.heap.size w0 wr) (fun i _ => 64 - (intOf i).toNat)
  case atStart => exact ⟨0, by omega, rfl, fun j hj => by omega, Below.refl _ _⟩
  case round =>
    obtain ⟨k, hk, rfl, hto, hbr⟩ := hrel
    obtain ⟨a0, a1, b0, b1, hwr⟩ := hK.out _ hbr
    have hzr := hbr.size
    by_cases hlt : k < 64
    · obtain ⟨x, hx⟩ : ∃ x, b.testBit k = x := ⟨_, rfl⟩
      have Hx := Lib.hid hx
      clear hx
      go_wp2_with fail
      refine (rhas_any lb b k _ hlt).mono ?_
      rintro e w2 ⟨rfl, hb2⟩
      rw [Hx.out]
      have hb2' := hbr.trans (hb2.mono hzr)
      have hz2 := hb2'.size
      clear a0 a1 b0 b1 hwr
      obtain ⟨a0, a1, b0, b1, hw2⟩ := hK.out _ hb2'
      cases x
      · go_wp2
        go_roundw
        case rel => exact ⟨k + 1, by omega, by go_num, domTo_succ hto (.inl Hx.out), hb2'⟩
        case measure => simp [intOf]; omega
      · obtain ⟨y, hy⟩ : ∃ y, a.testBit k = y := ⟨_, rfl⟩
        have Hy := Lib.hid hy
        clear hy
        go_wp2_with fail
        refine (rhas_any la a k _ hlt).mono ?_
        rintro e w3 ⟨rfl, hb3⟩
        rw [Hy.out]
        have hb3' := hb2'.trans (hb3.mono hz2)
        obtain ⟨_, _, _, _, hw3⟩ := hK.out _ hb3'
        cases y
        · go_wp2
          go_ret
          exact ⟨by rw [Hnt.out k Hx.out Hy.out]; rfl, hw3⟩
        · go_wp2
          go_roundw
          case rel => exact ⟨k + 1, by omega, by go_num, domTo_succ hto (.inr Hy.out), hb3'⟩
          case measure => simp [intOf]; omega
    · obtain rfl : k = 64 := by omega
      have Hd := Lib.hid (Hto.out hto)
      go_wp2
      go_ret
      exact ⟨by rw [Hd.out]; rfl, hwr⟩
end Go.Proofs.YtkjiaklpffnhlaaDoor
