/-
  Texts of this proof, put together: Sh6, Sh7.
-/
import Derived.Test.YtgpdplffljidbaaGreatDoorZ13
import Derived.Laws.Bits64b
namespace Go.Proofs.YtgpdplffljidbaaGreatDoor
open Go.RowKit Go.Maps

def primeF (n : Nat) : Nat → Nat → Bool
  | 0, _ => true
  | f + 1, b => if b * b ≤ n then (if n % b = 0 then false else primeF n f (b + 1)) else true
def primeB (n : Nat) : Bool := primeF n n 2
set_option maxHeartbeats 1000000 in
theorem prime_any (n : Nat) (h1 : 2 ≤ n) (h2 : n ≤ 1000) (w : World) :
    Calls Tryz.prog 150 #[.int .u64 (n : Int)] w fun e w' => e = .returned (.bool (primeB n)) ∧ w' = w := by
  go_enter Tryz.func150, Tryz.ntmps150
  go_wp2
  go_loop [3] (fun bv => ∃ b : Nat, 2 ≤ b ∧ b ≤ n ∧ bv = .int .u64 b ∧ Hid (primeB n = primeF n (n + 2 - b) b)) (fun bv => n + 1 - (intOf bv).toNat)
  case atStart => exact ⟨2, by omega, h1, rfl, Lib.hid rfl⟩
  case round =>
    obtain ⟨b, hb, hbn, rfl, hp⟩ := hrel
    have hb3 : b ≤ 1000 := by omega
    have hbb : b * b ≤ 1000 * 1000 := Nat.mul_le_mul hb3 hb3
    obtain ⟨q, hq⟩ : ∃ q, b * b = q := ⟨_, rfl⟩
    have hqi : (b : Int) * (b : Int) = (q : Int) := by rw [← hq]; push_cast; rfl
    have hlow : b * 2 ≤ b * b := Nat.mul_le_mul_left b hb
    have hp2 := hp.out
    rw [show n + 2 - b = (n + 1 - b) + 1 by omega, primeF, hq] at hp2
    rw [hq] at hbb hlow
    clear hq hp
    by_cases hle : q ≤ n
    · rw [if_pos hle] at hp2
      by_cases hr : n % b = 0
      · rw [if_pos hr] at hp2
        have hri : (n : Int) % (b : Int) = 0 := by omega
        have Hp := Lib.hid hp2
        clear hp2 hr
        go_wp2
        go_ret
        exact ⟨by rw [Hp.out]; rfl, rfl⟩
      · rw [if_neg hr] at hp2
        have hri : ((n : Int) % (b : Int) == 0) = false := by rw [beq_eq_false_iff_ne]; omega
        have Hp := Lib.hid hp2
        clear hp2 hr
        go_wp2
        go_round
        case rel => exact ⟨b + 1, by omega, by omega, by go_num, Lib.hid (by rw [Hp.out, show n + 2 - (b + 1) = n + 1 - b by omega])⟩
        case measure => simp [intOf]; omega
    · rw [if_neg hle] at hp2
      have Hp := Lib.hid hp2
      clear hp2
      go_wp2
      go_ret
      exact ⟨by rw [Hp.out]; rfl, rfl⟩

def sqB (n r : Nat) : Bool := decide (r * r / 18446744073709551616 < n)
def cuB (n r : Nat) : Bool := decide (r * r / 18446744073709551616 * r + r * r % 18446744073709551616 * r / 18446744073709551616 < n * 4294967296)
def fracP (p : Nat → Bool) : Nat → Nat → Nat
  | 0, r => r
  | k + 1, r => fracP p k (if p (r ||| 2 ^ k) = true then r ||| 2 ^ k else r)

theorem sq_any (r n : Nat) (hr : r < 34359738368) (_hn : n < 1000) (w : World) :
    Calls Tryz.prog 153 #[.int .u64 (r : Int), .int .u64 (n : Int)] w fun e w' => e = .returned (.bool (sqB n r)) ∧ w' = w := by
  have hm := Tryz.bits_Mul64 r r (by omega) (by omega) w
  unfold sqB
  obtain ⟨h, hh⟩ : ∃ h, r * r / 18446744073709551616 = h := ⟨_, rfl⟩
  obtain ⟨l, hl⟩ : ∃ l, r * r % 18446744073709551616 = l := ⟨_, rfl⟩
  rw [hh, hl] at hm
  rw [hh]
  clear hh hl
  go_enter Tryz.func153, Tryz.ntmps153
  go_wp2_with (go_at_call 110; refine hm.mono ?_; rintro e w' ⟨rfl, rfl⟩)
  go_ret
  exact ⟨rfl, rfl⟩

set_option maxRecDepth 100000 in
set_option maxHeartbeats 1000000 in
theorem cu_any (r n : Nat) (hr : r < 34359738368) (hn : n < 1000) (w : World) :
    Calls Tryz.prog 155 #[.int .u64 (r : Int), .int .u64 (n : Int)] w fun e w' => e = .returned (.bool (cuB n r)) ∧ w' = w := by
  have hm := Tryz.bits_Mul64 r r (by omega) (by omega) w
  unfold cuB
  have hb1 : r * r / 18446744073709551616 < 64 := by
    have : r * r ≤ 34359738368 * 34359738368 := Nat.mul_le_mul (by omega) (by omega)
    rw [Nat.div_lt_iff_lt_mul (by omega)]
    have h2 : r * r < 34359738368 * 34359738368 := Nat.mul_lt_mul'' hr hr
    omega
  obtain ⟨h, hh⟩ : ∃ h, r * r / 18446744073709551616 = h := ⟨_, rfl⟩
  obtain ⟨l, hl⟩ : ∃ l, r * r % 18446744073709551616 = l := ⟨_, rfl⟩
  have hl2 : l < 18446744073709551616 := by omega
  rw [hh, hl] at hm ⊢
  rw [hh] at hb1
  clear hh hl
  have hm2 := Tryz.bits_Mul64 l r hl2 (by omega) w
  have hb2 : l * r / 18446744073709551616 < 34359738368 := by
    rw [Nat.div_lt_iff_lt_mul (by omega)]
    have h2 : l * r ≤ 18446744073709551616 * r := Nat.mul_le_mul_right r (by omega)
    omega
  obtain ⟨c, hc⟩ : ∃ c, l * r / 18446744073709551616 = c := ⟨_, rfl⟩
  obtain ⟨x, hx⟩ : ∃ x, l * r % 18446744073709551616 = x := ⟨_, rfl⟩
  rw [hc, hx] at hm2
  rw [hc] at hb2 ⊢
  have hb3 : h * r ≤ 2199023255552 := Nat.le_trans (Nat.mul_le_mul (Nat.le_of_lt hb1) (Nat.le_of_lt hr)) (by decide)
  obtain ⟨y, hy⟩ : ∃ y, h * r = y := ⟨_, rfl⟩
  have hyi : (h : Int) * (r : Int) = (y : Int) := by rw [← hy]; push_cast; rfl
  rw [hy] at hb3 ⊢
  clear hc hx hy
  clear hl2 hb1
  go_enter Tryz.func155, Tryz.ntmps155
  go_wp2_with (first | (go_at_call 110; (with_reducible refine hm.mono ?_); rintro e w' ⟨rfl, hw⟩; obtain rfl := hw.symm; clear hw) | (go_at_call 110; (with_reducible refine hm2.mono ?_); rintro e w' ⟨rfl, hw⟩; obtain rfl := hw.symm; clear hw))
  go_ret
  refine ⟨?_, rfl⟩
  show Ending.returned (Value.bool (decide ((y : Int) + (c : Int) < (n : Int) * 4294967296))) = _
  rw [show decide ((y : Int) + (c : Int) < (n : Int) * 4294967296) = decide (y + c < n * 4294967296) by rw [decide_eq_decide]; omega]

set_option maxRecDepth 100000 in
set_option maxHeartbeats 2000000 in
theorem sqc_any (pn n r : Nat) (hr : r < 34359738368) (hn : n < 1000) (w : World) (hc : w.cell? ⟨pn, 0, none⟩ = some (.int .u64 (n : Int))) :
    Calls Tryz.prog 152 #[.int .u64 (r : Int), .pointer (some ⟨pn, 0, none⟩)] w fun e w' => e = .returned (.bool (sqB n r)) ∧ w' = w := by
  have h := sq_any r n hr hn w
  obtain ⟨x, hx⟩ : ∃ x, sqB n r = x := ⟨_, rfl⟩
  rw [hx] at h ⊢
  clear hx
  go_enter Tryz.func152, Tryz.ntmps152
  go_wp2_with (go_at_call 153; refine h.mono ?_; rintro e w' ⟨rfl, rfl⟩)
  go_ret
  exact ⟨rfl, rfl⟩

set_option maxRecDepth 100000 in
set_option maxHeartbeats 2000000 in
theorem frac_sqc (pn n : Nat) (hn : n < 1000) (w : World) (hc : w.cell? ⟨pn, 0, none⟩ = some (.int .u64 (n : Int))) :
    Calls Tryz.prog 151 #[.func (.func 152) #[] #[.pointer (some ⟨pn, 0, none⟩)]] w fun e w' => e = .returned (.int .u32 ((fracP (sqB n) 35 0 % 4294967296 : Nat) : Int)) ∧ w' = w := by
  go_enter Tryz.func151, Tryz.ntmps151
  go_wp2
  go_loop [3, 4] (fun rv bv => ∃ (k r B : Nat), k ≤ 35 ∧ rv = .int .u64 r ∧ bv = .int .u64 B ∧ Hid (B = 2 ^ k / 2) ∧ r < 34359738368 ∧ Hid (fracP (sqB n) 35 0 = fracP (sqB n) k r)) (fun _ bv => (intOf bv).toNat)
  case atStart => exact ⟨35, 0, 17179869184, by omega, rfl, rfl, Lib.hid (by decide), by omega, Lib.hid rfl⟩
  case round =>
    obtain ⟨k, r, B, hk, rfl, rfl, hB, hr, hf⟩ := hrel
    match k, hk, hB, hf with
    | 0, hk, hB, hf =>
      obtain rfl : B = 0 := hB.out
      have e := hf.out
      rw [fracP] at e
      have He := Lib.hid e
      clear e hf hB
      go_wp2
      go_ret
      exact ⟨by rw [He.out]; push_cast; rfl, rfl⟩
    | j + 1, hk, hB, hf =>
      have hBj : B = 2 ^ j := by
        rw [hB.out, Nat.pow_succ]
        omega
      have hB1 : 0 < B := by rw [hBj]; exact Nat.two_pow_pos j
      have hB2 : B < 34359738368 := by rw [hBj]; exact Nat.lt_of_lt_of_le (Nat.pow_lt_pow_right (by omega) (by omega : j < 35)) (by decide)
      have hor := bits_or_u64_nat r B (by omega) (by omega)
      have ho : r ||| B < 34359738368 := Nat.or_lt_two_pow (n := 35) hr hB2
      have hf2 : fracP (sqB n) 35 0 = fracP (sqB n) j (if sqB n (r ||| B) = true then r ||| B else r) := by
        rw [hf.out, fracP, hBj]
      have hhalf : B / 2 = 2 ^ j / 2 := by rw [hBj]
      obtain ⟨z, hz⟩ : ∃ z, r ||| B = z := ⟨_, rfl⟩
      rw [hz] at hor ho hf2
      have hcall := sqc_any pn n z ho hn w hc
      have Hf := Lib.hid (And.intro hf2 hhalf)
      clear hf2 hhalf hz hBj hB hf
      cases hx : sqB n z with
      | true =>
        rw [hx] at hcall Hf
        clear hx
        go_wp2_with (go_at_call 152; refine hcall.mono ?_; rintro e w' ⟨rfl, rfl⟩)
        go_round
        case rel => exact ⟨j, z, B / 2, by omega, by first | rfl | go_num, by go_num, Lib.hid Hf.out.2, ho, Lib.hid (by rw [Hf.out.1]; simp)⟩
        case measure => simp [intOf]; omega
      | false =>
        rw [hx] at hcall Hf
        clear hx
        go_wp2_with (go_at_call 152; refine hcall.mono ?_; rintro e w' ⟨rfl, rfl⟩)
        go_round
        case rel => exact ⟨j, r, B / 2, by omega, rfl, by go_num, Lib.hid Hf.out.2, hr, Lib.hid (by rw [Hf.out.1, if_neg (by decide)])⟩
        case measure => simp [intOf]; omega

set_option maxRecDepth 100000 in
set_option maxHeartbeats 2000000 in
theorem cuc_any (pn n r : Nat) (hr : r < 34359738368) (hn : n < 1000) (w : World) (hc : w.cell? ⟨pn, 0, none⟩ = some (.int .u64 (n : Int))) :
    Calls Tryz.prog 154 #[.int .u64 (r : Int), .pointer (some ⟨pn, 0, none⟩)] w fun e w' => e = .returned (.bool (cuB n r)) ∧ w' = w := by
  have h := cu_any r n hr hn w
  obtain ⟨x, hx⟩ : ∃ x, cuB n r = x := ⟨_, rfl⟩
  rw [hx] at h ⊢
  clear hx
  go_enter Tryz.func154, Tryz.ntmps154
  go_wp2_with (go_at_call 155; refine h.mono ?_; rintro e w' ⟨rfl, rfl⟩)
  go_ret
  exact ⟨rfl, rfl⟩

set_option maxRecDepth 100000 in
set_option maxHeartbeats 2000000 in
theorem frac_cuc (pn n : Nat) (hn : n < 1000) (w : World) (hc : w.cell? ⟨pn, 0, none⟩ = some (.int .u64 (n : Int))) :
    Calls Tryz.prog 151 #[.func (.func 154) #[] #[.pointer (some ⟨pn, 0, none⟩)]] w fun e w' => e = .returned (.int .u32 ((fracP (cuB n) 35 0 % 4294967296 : Nat) : Int)) ∧ w' = w := by
  go_enter Tryz.func151, Tryz.ntmps151
  go_wp2
  go_loop [3, 4] (fun rv bv => ∃ (k r B : Nat), k ≤ 35 ∧ rv = .int .u64 r ∧ bv = .int .u64 B ∧ Hid (B = 2 ^ k / 2) ∧ r < 34359738368 ∧ Hid (fracP (cuB n) 35 0 = fracP (cuB n) k r)) (fun _ bv => (intOf bv).toNat)
  case atStart => exact ⟨35, 0, 17179869184, by omega, rfl, rfl, Lib.hid (by decide), by omega, Lib.hid rfl⟩
  case round =>
    obtain ⟨k, r, B, hk, rfl, rfl, hB, hr, hf⟩ := hrel
    match k, hk, hB, hf with
    | 0, hk, hB, hf =>
      obtain rfl : B = 0 := hB.out
      have e := hf.out
      rw [fracP] at e
      have He := Lib.hid e
      clear e hf hB
      go_wp2
      go_ret
      exact ⟨by rw [He.out]; push_cast; rfl, rfl⟩
    | j + 1, hk, hB, hf =>
      have hBj : B = 2 ^ j := by
        rw [hB.out, Nat.pow_succ]
        omega
      have hB1 : 0 < B := by rw [hBj]; exact Nat.two_pow_pos j
      have hB2 : B < 34359738368 := by rw [hBj]; exact Nat.lt_of_lt_of_le (Nat.pow_lt_pow_right (by omega) (by omega : j < 35)) (by decide)
      have hor := bits_or_u64_nat r B (by omega) (by omega)
      have ho : r ||| B < 34359738368 := Nat.or_lt_two_pow (n := 35) hr hB2
      have hf2 : fracP (cuB n) 35 0 = fracP (cuB n) j (if cuB n (r ||| B) = true then r ||| B else r) := by
        rw [hf.out, fracP, hBj]
      have hhalf : B / 2 = 2 ^ j / 2 := by rw [hBj]
      obtain ⟨z, hz⟩ : ∃ z, r ||| B = z := ⟨_, rfl⟩
      rw [hz] at hor ho hf2
      have hcall := cuc_any pn n z ho hn w hc
      have Hf := Lib.hid (And.intro hf2 hhalf)
      clear hf2 hhalf hz hBj hB hf
      cases hx : cuB n z with
      | true =>
        rw [hx] at hcall Hf
        clear hx
        go_wp2_with (go_at_call 154; refine hcall.mono ?_; rintro e w' ⟨rfl, rfl⟩)
        go_round
        case rel => exact ⟨j, z, B / 2, by omega, by first | rfl | go_num, by go_num, Lib.hid Hf.out.2, ho, Lib.hid (by rw [Hf.out.1]; simp)⟩
        case measure => simp [intOf]; omega
      | false =>
        rw [hx] at hcall Hf
        clear hx
        go_wp2_with (go_at_call 154; refine hcall.mono ?_; rintro e w' ⟨rfl, rfl⟩)
        go_round
        case rel => exact ⟨j, r, B / 2, by omega, rfl, by go_num, Lib.hid Hf.out.2, hr, Lib.hid (by rw [Hf.out.1, if_neg (by decide)])⟩
        case measure => simp [intOf]; omega

def primesP (n : Nat) : List Nat := (List.range n).filter fun x => decide (2 ≤ x) && primeB x
theorem primes_succ (n : Nat) : primesP (n + 1) = primesP n ++ if (decide (2 ≤ n) && primeB n) = true then [n] else [] := by
  unfold primesP
  rw [List.range_succ, List.filter_append, List.filter_cons, List.filter_nil]
theorem primes_more (n : Nat) : ∀ d, ∃ t, primesP (n + d) = primesP n ++ t
  | 0 => ⟨[], by simp⟩
  | d + 1 => by
    obtain ⟨t, ht⟩ := primes_more n d
    exact ⟨t ++ (if (decide (2 ≤ n + d) && primeB (n + d)) = true then [n + d] else []), by rw [← Nat.add_assoc, primes_succ, ht, List.append_assoc]⟩
theorem primes_312 : (primesP 312).length = 64 := by decide +kernel
def primes64 : List Nat := primesP 312
theorem primes_lt {n : Nat} (h : (primesP n).length < 64) : n < 312 := by
  rcases Nat.lt_or_ge n 312 with h2 | h2
  · exact h2
  · obtain ⟨t, ht⟩ := primes_more 312 (n - 312)
    rw [show 312 + (n - 312) = n by omega] at ht
    rw [ht, List.length_append, primes_312] at h
    omega
theorem primes_all {n : Nat} (h : (primesP n).length = 64) : primesP n = primes64 := by
  rcases Nat.lt_or_ge n 312 with h2 | h2
  · obtain ⟨t, ht⟩ := primes_more n (312 - n)
    rw [show n + (312 - n) = 312 by omega] at ht
    have hl := congrArg List.length ht
    rw [primes_312, List.length_append, h] at hl
    have : t = [] := List.eq_nil_of_length_eq_zero (by omega)
    rw [this, List.append_nil] at ht
    exact ht.symm
  · obtain ⟨t, ht⟩ := primes_more 312 (n - 312)
    rw [show 312 + (n - 312) = n by omega] at ht
    have hl := congrArg List.length ht
    rw [h, List.length_append, primes_312] at hl
    have : t = [] := List.eq_nil_of_length_eq_zero (by omega)
    rw [this, List.append_nil] at ht
    exact ht
def sqF (n : Nat) : Int := ((fracP (sqB n) 35 0 % 4294967296 : Nat) : Int)
def cuF (n : Nat) : Int := ((fracP (cuB n) 35 0 % 4294967296 : Nat) : Int)
structure TabOk (cs : Array Value) (k : Nat) (L : List Nat) : Prop where
  st : ∀ j (h : j < L.length), j < 8 → cs[k + j]? = some (.int .u32 (sqF L[j]))
  ad : ∀ j (h : j < L.length), cs[k + 8 + j]? = some (.int .u32 (cuF L[j]))
theorem TabOk.out {cs cs' : Array Value} {k : Nat} {L : List Nat} (h : TabOk cs k L) (hs : ∀ j, j < L.length → cs'[k + 8 + j]? = cs[k + 8 + j]?) (h2 : ∀ j, j < L.length → j < 8 → cs'[k + j]? = cs[k + j]?) : TabOk cs' k L :=
  ⟨fun j hj h8 => (h2 j hj h8).trans (h.st j hj h8), fun j hj => (hs j hj).trans (h.ad j hj)⟩
def Held9 (w : World) (b : Nat) (cs : Array Value) (T : TypeId) : Prop := w.heap[b]? = some (.cells cs T (0, 0))
def Same72 (cs cs' : Array Value) (k : Nat) : Prop := cs'.size = cs.size ∧ ∀ j, (j < k ∨ k + 72 ≤ j) → cs'[j]? = cs[j]?
def Words72 (cs : Array Value) (k : Nat) : Prop := ∀ j, j < 72 → ∃ x : Int, cs[k + j]? = some (.int .u32 x)
theorem set_get9 (cs : Array Value) (j i : Nat) (v : Value) (hj : j < cs.size) : (cs.setIfInBounds j v)[i]? = if i = j then some v else cs[i]? := by
  rw [Array.getElem?_setIfInBounds]
  by_cases h : i = j
  · subst h; simp [hj]
  · rw [if_neg (fun e => h e.symm), if_neg h]

end Go.Proofs.YtgpdplffljidbaaGreatDoor
namespace Go.Proofs.YtgpdplffljidbaaGreatDoor
open Go.RowKit Go.Maps

theorem TabOk.snoc {c1 c2 : Array Value} {k : Nat} {L : List Nat} {n : Nat} (h : TabOk c1 k L) (hs : ∀ j, j ≠ k + 8 + L.length → (j ≠ k + L.length ∨ 8 ≤ L.length) → c2[j]? = c1[j]?)
    (ha : c2[k + 8 + L.length]? = some (.int .u32 (cuF n))) (hb : L.length < 8 → c2[k + L.length]? = some (.int .u32 (sqF n))) : TabOk c2 k (L ++ [n]) := by
  constructor
  · intro j hj h8
    rw [List.length_append, List.length_singleton] at hj
    by_cases e : j = L.length
    · subst e
      rw [List.getElem_append_right (Nat.le_refl _)]
      simp only [Nat.sub_self, List.getElem_cons_zero]
      exact hb h8
    · rw [List.getElem_append_left (by omega), hs (k + j) (by omega) (by omega)]
      exact h.st j (by omega) h8
  · intro j hj
    rw [List.length_append, List.length_singleton] at hj
    by_cases e : j = L.length
    · subst e
      rw [List.getElem_append_right (Nat.le_refl _)]
      simp only [Nat.sub_self, List.getElem_cons_zero]
      exact ha
    · rw [List.getElem_append_left (by omega), hs (k + 8 + j) (by omega) (by omega)]
      exact h.ad j (by omega)
theorem Same72.set {cs c1 : Array Value} {k j : Nat} (h : Same72 cs c1 k) (hj : k ≤ j ∧ j < k + 72) (hk : k + 72 ≤ cs.size) (v : Value) : Same72 cs (c1.setIfInBounds j v) k :=
  ⟨by rw [Array.size_setIfInBounds]; exact h.1, fun i hi => by rw [set_get9 _ _ _ _ (by rw [h.1]; omega), if_neg (by omega)]; exact h.2 i hi⟩
theorem Words72.set {c1 : Array Value} {k j : Nat} (h : Words72 c1 k) (hj : j < c1.size) (x : Int) : Words72 (c1.setIfInBounds j (.int .u32 x)) k := fun i hi => by
  rw [set_get9 _ _ _ _ hj]
  by_cases e : k + i = j
  · exact ⟨x, by rw [if_pos e]⟩
  · rw [if_neg e]; exact h i hi
section
variable {w : World} {b : Nat} {cs : Array Value} {T : TypeId}
theorem Held9.cell (h : Held9 w b cs T) (j : Nat) : w.cell? ⟨b, j, none⟩ = cs[j]? := Lib.cell_of_heap h j
theorem Held9.frozen (h : Held9 w b cs T) (j : Nat) : w.frozen? ⟨b, j, none⟩ = false := Lib.frozen_of_heap h j
theorem Held9.lt (h : Held9 w b cs T) : b < w.heap.size := (Array.getElem?_eq_some_iff.1 h).1
theorem Held9.set (h : Held9 w b cs T) (j : Nat) (v : Value) : Held9 (w.setCell ⟨b, j, none⟩ v) b (cs.setIfInBounds j v) T := set_block h
theorem Held9.alloc (h : Held9 w b cs T) (o : Obj) : Held9 (w.alloc o) b cs T := by
  unfold Held9
  rw [heap_alloc_old w o h.lt]
  exact h
end
theorem World.size_setCell9 (w : World) (a : Addr) (v : Value) : (w.setCell a v).heap.size = w.heap.size := by simp [World.setCell]
structure Made9 (w w' : World) (b pn n : Nat) (T : TypeId) (cs c1 : Array Value) (k : Nat) (L : List Nat) : Prop where
  hp : w.heap.size ≤ pn
  lt : pn < w'.heap.size
  cell : w'.cell? ⟨pn, 0, none⟩ = some (.int .u64 (n : Int))
  frozen : w'.frozen? ⟨pn, 0, none⟩ = false
  held : Held9 w' b c1 T
  same : Same72 cs c1 k
  words : Words72 c1 k
  tab : TabOk c1 k L
  grown : w.grownBy w' (some b)
section
variable {w w' : World} {b pn n k : Nat} {T : TypeId} {cs c1 : Array Value} {L : List Nat}
theorem Made9.drew (h : Made9 w w' b pn n T cs c1 k L) : Made9 w w'.drew b pn n T cs c1 k L := ⟨h.hp, h.lt, h.cell, h.frozen, h.held, h.same, h.words, h.tab, ⟨h.grown.os, h.grown.tape, h.grown.output, h.grown.size, h.grown.block⟩⟩
theorem Made9.bne (h : Made9 w w' b pn n T cs c1 k L) (hb : b < w.heap.size) : pn ≠ b := by have := h.hp; omega
theorem Made9.set (h : Made9 w w' b pn n T cs c1 k L) (hb : b < w.heap.size) {j : Nat} (hj : k ≤ j ∧ j < k + 72) (hk : k + 72 ≤ cs.size) (x : Int) {L' : List Nat} (ht : TabOk (c1.setIfInBounds j (.int .u32 x)) k L') :
    Made9 w (w'.setCell ⟨b, j, none⟩ (.int .u32 x)) b pn n T cs (c1.setIfInBounds j (.int .u32 x)) k L' := by
  have hne := h.bne hb
  refine ⟨h.hp, by simp [World.setCell]; exact h.lt, ?_, ?_, h.held.set j _, h.same.set hj hk _, h.words.set (by rw [h.same.1]; omega) x, ht, ?_⟩
  · rw [World.cell?_setCell_other _ _ _ _ (by intro e; injection e with e; exact hne e.symm)]
    exact h.cell
  · rw [World.frozen?_setCell]
    exact h.frozen
  · exact ⟨h.grown.os, h.grown.tape, h.grown.output, by simpa [World.setCell] using h.grown.size, fun i hi hne => (Below.heap_setCell w' ⟨b, j, none⟩ _ i (fun e => hne (by rw [e]))).trans (h.grown.block i hi hne)⟩
theorem made9_start (w : World) (hh : Held9 w b cs T) (h0 : Words72 cs k) : Made9 w (w.alloc (.cells #[.int .u64 2] 147)) b w.heap.size 2 T cs cs k [] := by
  have hnew : (w.alloc (.cells #[.int .u64 2] 147)).heap[w.heap.size]? = some (.cells #[.int .u64 2] 147 (0, 0)) := heap_alloc_new w _
  refine ⟨Nat.le_refl _, by simp, ?_, Lib.frozen_of_heap hnew 0, hh.alloc _, ⟨rfl, fun _ _ => rfl⟩, h0, ⟨fun j hj => (by cases hj), fun j hj => (by cases hj)⟩, World.grownBy_alloc w _ _⟩
  rw [Lib.cell_of_heap hnew]
  rfl
theorem Made9.next (h : Made9 w w' b pn n T cs c1 k L) : Made9 w (w'.alloc (.cells #[.int .u64 ((n : Int) + 1)] 147)) b w'.heap.size (n + 1) T cs c1 k L := by
  have hsz := h.grown.size
  have hnew : (w'.alloc (.cells #[.int .u64 ((n : Int) + 1)] 147)).heap[w'.heap.size]? = some (.cells #[.int .u64 ((n : Int) + 1)] 147 (0, 0)) := heap_alloc_new w' _
  refine ⟨hsz, by simp, ?_, Lib.frozen_of_heap hnew 0, h.held.alloc _, h.same, h.words, h.tab, h.grown.trans (World.grownBy_alloc w' _ _)⟩
  rw [Lib.cell_of_heap hnew]
  rfl
end

set_option maxRecDepth 100000 in
set_option maxHeartbeats 4000000 in
theorem build_any (b k : Nat) (cs : Array Value) (T : TypeId) (w : World) (h : Held9 w b cs T) (hk : k + 72 ≤ cs.size) (h0 : Words72 cs k) :
    Calls Tryz.prog 130 #[.pointer (some ⟨b, k, none⟩)] w fun e w' => e = .returned (.tuple #[]) ∧ ∃ cs', Held9 w' b cs' T ∧ Same72 cs cs' k ∧ Words72 cs' k ∧ TabOk cs' k primes64 ∧ w.grownBy w' (some b) := by
  have hb := h.lt
  have hst := made9_start w h h0
  have Hk := Lib.hid hk
  clear hk h h0
  go_enter Tryz.func130, Tryz.ntmps130
  go_wp2
  go_loopg [2, 3] 400 (fun gk av pv wr => ∃ (n pn : Nat) (c1 : Array Value) (L : List Nat), 2 ≤ n ∧ gk + n = 402 ∧ L.length ≤ 64 ∧ av = .int .i64 (L.length : Int) ∧ pv = .pointer (some ⟨pn, 0, none⟩) ∧ Hid (primesP n = L) ∧ Made9 w wr b pn n T cs c1 k L)
  case atStart => exact ⟨2, w.heap.size, cs, [], by omega, rfl, by decide, rfl, rfl, Lib.hid (by decide), hst⟩
  case round =>
    clear hst
    obtain ⟨n, pn, c1, L, hn2, hgk, hL, rfl, rfl, hP, hM⟩ := hrel
    by_cases hlt : L.length < 64
    · have hn : n < 312 := primes_lt (by rw [hP.out]; exact hlt)
      have hpr := prime_any n hn2 (by omega) wr
      have hcell := hM.cell
      have hnext := primes_succ n
      rw [hP.out, decide_eq_true hn2, Bool.true_and] at hnext
      cases hpb : primeB n with
      | false =>
        rw [hpb] at hpr hnext
        simp only [Bool.false_eq_true, if_false, List.append_nil] at hnext
        have Hnx := Lib.hid hnext
        have HM := Lib.hid hM.next
        clear hnext hpb hM hP
        go_wp2_with (go_at_call 150; refine hpr.mono ?_; rintro e w' ⟨rfl, rfl⟩)
        --@a
        go_roundg (gk - 1)
        case measure => omega
        case rel => exact ⟨n + 1, _, c1, L, by omega, by omega, hL, rfl, rfl, Hnx, HM.out⟩
      | true =>
        rw [hpb] at hpr hnext
        simp only [if_true] at hnext
        have Hnx := Lib.hid hnext
        clear hnext hpb hP
        have hcs := hM.same.1
        have hkk := Hk.out
        have hsz8 : k + 8 + L.length < c1.size := by omega
        have Hfr2 : Hid (∀ W : World, W.cell? ⟨pn, 0, none⟩ = some (.int .u64 (n : Int)) → Calls Tryz.prog 151 #[.func (.func 154) #[] #[.pointer (some ⟨pn, 0, none⟩)]] W fun e w' => e = .returned (.int .u32 (cuF n)) ∧ w' = W) := Lib.hid fun W h => frac_cuc pn n (by omega) W h
        by_cases h8 : L.length < 8
        · have c0 := hM.words L.length (by omega)
          obtain ⟨x0, c0⟩ := c0
          rw [← hM.held.cell] at c0
          have f0 := hM.held.frozen (k + L.length)
          have Hfr : Hid (∀ W : World, W.cell? ⟨pn, 0, none⟩ = some (.int .u64 (n : Int)) → Calls Tryz.prog 151 #[.func (.func 152) #[] #[.pointer (some ⟨pn, 0, none⟩)]] W fun e w' => e = .returned (.int .u32 (sqF n)) ∧ w' = W) := Lib.hid fun W h => frac_sqc pn n (by omega) W h
          have ht1 : TabOk (c1.setIfInBounds (k + L.length) (.int .u32 (sqF n))) k L := hM.tab.out (fun j hj => by rw [set_get9 _ _ _ _ (by omega), if_neg (by omega)]) (fun j hj h => by rw [set_get9 _ _ _ _ (by omega), if_neg (by omega)])
          have hM2 := (hM.set hb (j := k + L.length) (by omega) hkk (sqF n) ht1).drew
          have htab : TabOk ((c1.setIfInBounds (k + L.length) (.int .u32 (sqF n))).setIfInBounds (k + 8 + L.length) (.int .u32 (cuF n))) k (L ++ [n]) := hM.tab.snoc (fun j h1 h2 => by
              rw [set_get9 _ _ _ _ (by rw [Array.size_setIfInBounds]; omega), if_neg h1, set_get9 _ _ _ _ (by omega), if_neg (by omega)])
            (by rw [set_get9 _ _ _ _ (by rw [Array.size_setIfInBounds]; omega), if_pos rfl])
            (fun _ => by rw [set_get9 _ _ _ _ (by rw [Array.size_setIfInBounds]; omega), if_neg (by omega), set_get9 _ _ _ _ (by omega), if_pos rfl])
          obtain ⟨c2, hc2⟩ : ∃ c2, c1.setIfInBounds (k + L.length) (.int .u32 (sqF n)) = c2 := ⟨_, rfl⟩
          rw [hc2] at hM2 htab
          have HM1 := Lib.hid hM2
          clear ht1 hM hc2 hM2
          go_wp2_with (go_at_call 150; refine hpr.mono ?_; rintro e w' ⟨rfl, hw9⟩; obtain rfl := hw9.symm; clear hw9)
          go_region_held3 (fun W => W.cell? ⟨pn, 0, none⟩ = some (.int .u64 (n : Int))) (first | exact hcell | exact HM1.out.cell | (go_simp; done)) ((go_at_call 151; refine (Hfr.out _ (by exact hcell)).mono ?_; rintro e w9 ⟨rfl, rfl⟩))
          rename_i hHeld
          clear c0 f0 hcell hHeld
          have hM2 := HM1.out
          clear HM1
          generalize (wr.setCell ⟨b, k + L.length, none⟩ (.int .u32 (sqF n))).drew = w2 at hM2 ⊢
          obtain ⟨x1, c0⟩ : ∃ x1 : Int, c2[k + 8 + L.length]? = some (.int .u32 x1) := by
            have := hM2.words (8 + L.length) (by omega)
            rw [← Nat.add_assoc] at this
            exact this
          rw [← hM2.held.cell] at c0
          have f0 := hM2.held.frozen (k + 8 + L.length)
          have hM3 := hM2.set hb (j := k + 8 + L.length) (by omega) hkk (cuF n) htab
          have HM3 := Lib.hid hM3.drew
          have hM4 := hM3.next.drew
          rw [World.size_setCell9] at hM4
          have HM4 := Lib.hid hM4
          clear hM4
          have hcell2 := hM2.cell
          clear hM3 htab hM2
          go_wp2
          go_region_held3 (fun W => W.cell? ⟨pn, 0, none⟩ = some (.int .u64 (n : Int))) (first | exact hcell2 | exact HM3.out.cell | (go_simp; done)) ((go_at_call 151; refine (Hfr2.out _ (by exact hcell2)).mono ?_; rintro e w9 ⟨rfl, rfl⟩))
          rename_i hHeld
          clear c0 f0 hcell2
          go_wp2
          go_roundg (gk - 1)
          case measure => omega
          case rel => exact ⟨n + 1, _, _, L ++ [n], by omega, by omega, by rw [List.length_append, List.length_singleton]; omega, by rw [List.length_append, List.length_singleton]; push_cast; rfl, rfl, Hnx, HM4.out⟩
        · have hM2 := hM
          have htab : TabOk (c1.setIfInBounds (k + 8 + L.length) (.int .u32 (cuF n))) k (L ++ [n]) := hM.tab.snoc (fun j h1 h2 => by
              rw [set_get9 _ _ _ _ (by omega), if_neg h1])
            (by rw [set_get9 _ _ _ _ (by omega), if_pos rfl])
            (fun h => absurd h h8)
          obtain ⟨c2, hc2⟩ : ∃ c2, c1 = c2 := ⟨_, rfl⟩
          rw [hc2] at hM2 htab
          clear hM hc2
          go_wp2_with (go_at_call 150; refine hpr.mono ?_; rintro e w' ⟨rfl, hw9⟩; obtain rfl := hw9.symm; clear hw9)
          obtain ⟨x1, c0⟩ : ∃ x1 : Int, c2[k + 8 + L.length]? = some (.int .u32 x1) := by
            have := hM2.words (8 + L.length) (by omega)
            rw [← Nat.add_assoc] at this
            exact this
          rw [← hM2.held.cell] at c0
          have f0 := hM2.held.frozen (k + 8 + L.length)
          have hM3 := hM2.set hb (j := k + 8 + L.length) (by omega) hkk (cuF n) htab
          have HM3 := Lib.hid hM3.drew
          have hM4 := hM3.next.drew
          rw [World.size_setCell9] at hM4
          have HM4 := Lib.hid hM4
          clear hM4
          have hcell2 := hM2.cell
          clear hM3 htab hM2
          go_region_held3 (fun W => W.cell? ⟨pn, 0, none⟩ = some (.int .u64 (n : Int))) (first | exact hcell2 | exact HM3.out.cell | (go_simp; done)) ((go_at_call 151; refine (Hfr2.out _ (by exact hcell2)).mono ?_; rintro e w9 ⟨rfl, rfl⟩))
          rename_i hHeld
          clear c0 f0 hcell2
          go_wp2
          go_roundg (gk - 1)
          case measure => omega
          case rel => exact ⟨n + 1, _, _, L ++ [n], by omega, by omega, by rw [List.length_append, List.length_singleton]; omega, by rw [List.length_append, List.length_singleton]; push_cast; rfl, rfl, Hnx, HM4.out⟩
    · have hL64 : L.length = 64 := by omega
      have hfin : L = primes64 := by rw [← hP.out]; exact primes_all (by rw [hP.out]; exact hL64)
      have H := Lib.hid (And.intro hfin hM)
      clear hfin hM hP
      go_wp2
      (first | go_end0 | (simp only [Exit.inBlock, Exit.then]; refine bodyPost_ret (results_none rfl _ _ _) rfl ?_) | refine bodyPost_ret (results_none rfl _ _ _) rfl ?_)
      exact ⟨rfl, c1, H.out.2.held, H.out.2.same, H.out.2.words, by have := H.out.2.tab; rw [H.out.1] at this; exact this, H.out.2.grown⟩
end Go.Proofs.YtgpdplffljidbaaGreatDoor
