/-
  Texts of this proof, put together: Sh6.
-/
import Derived.Test.YtcjmpkfcjcoobaaGreatX16
import Derived.Laws.Bits64b
namespace Go.Proofs.YtcjmpkfcjcoobaaGreat
open Go.RowKit Go.Maps

/-- Is no number from by on, of at most so many, a divisor, up to the root? -/
def primeF (n : Nat) : Nat → Nat → Bool
  | 0, _ => true
  | f + 1, b => if b * b ≤ n then (if n % b = 0 then false else primeF n f (b + 1)) else true
def primeB (n : Nat) : Bool := primeF n n 2
theorem prime_more (n : Nat) : ∀ (f b : Nat), 1 ≤ b → n < b + f → primeF n f b = primeF n (f + 1) b
  | 0, b, hb, h => by
    have hbb : n < b * b := Nat.lt_of_lt_of_le (by omega : n < b * 1) (Nat.mul_le_mul_left b hb)
    rw [primeF, primeF, if_neg (by omega)]
  | f + 1, b, hb, h => by
    rw [primeF]
    conv => rhs; rw [primeF]
    rw [prime_more n f (b + 1) (by omega) (by omega)]

set_option maxHeartbeats 1000000 in
theorem prime_any (n : Nat) (h1 : 2 ≤ n) (h2 : n ≤ 1000) (w : World) :
    Calls Tryz.prog 69 #[.int .u64 (n : Int)] w fun e w' => e = .returned (.bool (primeB n)) ∧ w' = w := by
  go_enter Tryz.func69, Tryz.ntmps69
  go_wp2
  go_loop [3] (fun bv => ∃ b : Nat, 2 ≤ b ∧ b ≤ n ∧ bv = .int .u64 b ∧ Hid (primeB n = primeF n (n + 2 - b) b)) (fun bv => n + 1 - (intOf bv).toNat)
  case atStart => exact ⟨2, by omega, h1, rfl, Lib.hid rfl⟩
  case round =>
    obtain ⟨b, hb, hbn, rfl, hp⟩ := hrel
    have hb3 : b ≤ 1000 := by omega
    have hbb : b * b ≤ 1000 * 1000 := Nat.mul_le_mul hb3 hb3
    obtain ⟨q, hq⟩ : ∃ q, b * b = q := ⟨_, rfl⟩
    have hqi : (b : Int) * (b : Int) = (q : Int) := by rw [← hq]; push_cast; rfl
    have hlow : b * 2 ≤ b * b := Nat.mul_le_mul_left b hb
    have hp2 := hp.out
    rw [show n + 2 - b = (n + 1 - b) + 1 by omega, primeF, hq] at hp2
    rw [hq] at hbb hlow
    clear hq hp
    by_cases hle : q ≤ n
    · rw [if_pos hle] at hp2
      by_cases hr : n % b = 0
      · rw [if_pos hr] at hp2
        have hri : (n : Int) % (b : Int) = 0 := by omega
        have Hp := Lib.hid hp2
        clear hp2 hr
        go_wp2
        go_ret
        exact ⟨by rw [Hp.out]; rfl, rfl⟩
      · rw [if_neg hr] at hp2
        have hri : ((n : Int) % (b : Int) == 0) = false := by rw [beq_eq_false_iff_ne]; omega
        have Hp := Lib.hid hp2
        clear hp2 hr
        go_wp2
        go_round
        case rel => exact ⟨b + 1, by omega, by omega, by go_num, Lib.hid (by rw [Hp.out, show n + 2 - (b + 1) = n + 1 - b by omega])⟩
        case measure => simp [intOf]; omega
    · rw [if_neg hle] at hp2
      have Hp := Lib.hid hp2
      clear hp2
      go_wp2
      go_ret
      exact ⟨by rw [Hp.out]; rfl, rfl⟩

def sqB (n r : Nat) : Bool := decide (r * r / 18446744073709551616 < n)
def cuB (n r : Nat) : Bool := decide (r * r / 18446744073709551616 * r + r * r % 18446744073709551616 * r / 18446744073709551616 < n * 4294967296)
/-- The greatest number of so many bits, with r's above them, that is below. -/
def fracP (p : Nat → Bool) : Nat → Nat → Nat
  | 0, r => r
  | k + 1, r => fracP p k (if p (r ||| 2 ^ k) = true then r ||| 2 ^ k else r)

theorem sq_any (r n : Nat) (hr : r < 34359738368) (hn : n < 1000) (w : World) :
    Calls Tryz.prog 72 #[.int .u64 (r : Int), .int .u64 (n : Int)] w fun e w' => e = .returned (.bool (sqB n r)) ∧ w' = w := by
  have hm := Tryz.bits_Mul64 r r (by omega) (by omega) w
  unfold sqB
  obtain ⟨h, hh⟩ : ∃ h, r * r / 18446744073709551616 = h := ⟨_, rfl⟩
  obtain ⟨l, hl⟩ : ∃ l, r * r % 18446744073709551616 = l := ⟨_, rfl⟩
  rw [hh, hl] at hm
  rw [hh]
  clear hh hl
  go_enter Tryz.func72, Tryz.ntmps72
  go_wp2_with (go_at_call 104; refine hm.mono ?_; rintro e w' ⟨rfl, rfl⟩)
  go_ret
  exact ⟨rfl, rfl⟩

set_option maxRecDepth 100000 in
set_option maxHeartbeats 1000000 in
theorem cu_any (r n : Nat) (hr : r < 34359738368) (hn : n < 1000) (w : World) :
    Calls Tryz.prog 74 #[.int .u64 (r : Int), .int .u64 (n : Int)] w fun e w' => e = .returned (.bool (cuB n r)) ∧ w' = w := by
  have hm := Tryz.bits_Mul64 r r (by omega) (by omega) w
  unfold cuB
  have hb1 : r * r / 18446744073709551616 < 64 := by
    have : r * r ≤ 34359738368 * 34359738368 := Nat.mul_le_mul (by omega) (by omega)
    rw [Nat.div_lt_iff_lt_mul (by omega)]
    have h2 : r * r < 34359738368 * 34359738368 := Nat.mul_lt_mul'' hr hr
    omega
  obtain ⟨h, hh⟩ : ∃ h, r * r / 18446744073709551616 = h := ⟨_, rfl⟩
  obtain ⟨l, hl⟩ : ∃ l, r * r % 18446744073709551616 = l := ⟨_, rfl⟩
  have hl2 : l < 18446744073709551616 := by omega
  rw [hh, hl] at hm ⊢
  rw [hh] at hb1
  clear hh hl
  have hm2 := Tryz.bits_Mul64 l r hl2 (by omega) w
  have hb2 : l * r / 18446744073709551616 < 34359738368 := by
    rw [Nat.div_lt_iff_lt_mul (by omega)]
    have h2 : l * r ≤ 18446744073709551616 * r := Nat.mul_le_mul_right r (by omega)
    omega
  obtain ⟨c, hc⟩ : ∃ c, l * r / 18446744073709551616 = c := ⟨_, rfl⟩
  obtain ⟨x, hx⟩ : ∃ x, l * r % 18446744073709551616 = x := ⟨_, rfl⟩
  rw [hc, hx] at hm2
  rw [hc] at hb2 ⊢
  have hb3 : h * r ≤ 2199023255552 := Nat.le_trans (Nat.mul_le_mul (Nat.le_of_lt hb1) (Nat.le_of_lt hr)) (by decide)
  obtain ⟨y, hy⟩ : ∃ y, h * r = y := ⟨_, rfl⟩
  have hyi : (h : Int) * (r : Int) = (y : Int) := by rw [← hy]; push_cast; rfl
  rw [hy] at hb3 ⊢
  clear hc hx hy
  clear hl2 hb1
  go_enter Tryz.func74, Tryz.ntmps74
  go_wp2_with (first | (go_at_call 104; (with_reducible refine hm.mono ?_); rintro e w' ⟨rfl, hw⟩; obtain rfl := hw.symm; clear hw) | (go_at_call 104; (with_reducible refine hm2.mono ?_); rintro e w' ⟨rfl, hw⟩; obtain rfl := hw.symm; clear hw))
  go_ret
  refine ⟨?_, rfl⟩
  show Ending.returned (Value.bool (decide ((y : Int) + (c : Int) < (n : Int) * 4294967296))) = _
  rw [show decide ((y : Int) + (c : Int) < (n : Int) * 4294967296) = decide (y + c < n * 4294967296) by rw [decide_eq_decide]; omega]

set_option maxRecDepth 100000 in
set_option maxHeartbeats 2000000 in
theorem sqc_any (pn n r : Nat) (hr : r < 34359738368) (hn : n < 1000) (w : World) (hc : w.cell? ⟨pn, 0, none⟩ = some (.int .u64 (n : Int))) :
    Calls Tryz.prog 71 #[.int .u64 (r : Int), .pointer (some ⟨pn, 0, none⟩)] w fun e w' => e = .returned (.bool (sqB n r)) ∧ w' = w := by
  have h := sq_any r n hr hn w
  obtain ⟨x, hx⟩ : ∃ x, sqB n r = x := ⟨_, rfl⟩
  rw [hx] at h ⊢
  clear hx
  go_enter Tryz.func71, Tryz.ntmps71
  go_wp2_with (go_at_call 72; refine h.mono ?_; rintro e w' ⟨rfl, rfl⟩)
  go_ret
  exact ⟨rfl, rfl⟩

set_option maxRecDepth 100000 in
set_option maxHeartbeats 2000000 in
theorem frac_sqc (pn n : Nat) (hn : n < 1000) (w : World) (hc : w.cell? ⟨pn, 0, none⟩ = some (.int .u64 (n : Int))) :
    Calls Tryz.prog 70 #[.func (.func 71) #[] #[.pointer (some ⟨pn, 0, none⟩)]] w fun e w' => e = .returned (.int .u32 ((fracP (sqB n) 35 0 % 4294967296 : Nat) : Int)) ∧ w' = w := by
  go_enter Tryz.func70, Tryz.ntmps70
  go_wp2
  go_loop [3, 4] (fun rv bv => ∃ (k r B : Nat), k ≤ 35 ∧ rv = .int .u64 r ∧ bv = .int .u64 B ∧ Hid (B = 2 ^ k / 2) ∧ r < 34359738368 ∧ Hid (fracP (sqB n) 35 0 = fracP (sqB n) k r)) (fun _ bv => (intOf bv).toNat)
  case atStart => exact ⟨35, 0, 17179869184, by omega, rfl, rfl, Lib.hid (by decide), by omega, Lib.hid rfl⟩
  case round =>
    obtain ⟨k, r, B, hk, rfl, rfl, hB, hr, hf⟩ := hrel
    match k, hk, hB, hf with
    | 0, hk, hB, hf =>
      obtain rfl : B = 0 := hB.out
      have e := hf.out
      rw [fracP] at e
      have He := Lib.hid e
      clear e hf hB
      go_wp2
      go_ret
      exact ⟨by rw [He.out]; push_cast; rfl, rfl⟩
    | j + 1, hk, hB, hf =>
      have hBj : B = 2 ^ j := by
        rw [hB.out, Nat.pow_succ]
        omega
      have hB1 : 0 < B := by rw [hBj]; exact Nat.two_pow_pos j
      have hB2 : B < 34359738368 := by rw [hBj]; exact Nat.lt_of_lt_of_le (Nat.pow_lt_pow_right (by omega) (by omega : j < 35)) (by decide)
      have hor := bits_or_u64_nat r B (by omega) (by omega)
      have ho : r ||| B < 34359738368 := Nat.or_lt_two_pow (n := 35) hr hB2
      have hf2 : fracP (sqB n) 35 0 = fracP (sqB n) j (if sqB n (r ||| B) = true then r ||| B else r) := by
        rw [hf.out, fracP, hBj]
      have hhalf : B / 2 = 2 ^ j / 2 := by rw [hBj]
      obtain ⟨z, hz⟩ : ∃ z, r ||| B = z := ⟨_, rfl⟩
      rw [hz] at hor ho hf2
      have hcall := sqc_any pn n z ho hn w hc
      have Hf := Lib.hid (And.intro hf2 hhalf)
      clear hf2 hhalf hz hBj hB hf
      cases hx : sqB n z with
      | true =>
        rw [hx] at hcall Hf
        clear hx
        go_wp2_with (go_at_call 71; refine hcall.mono ?_; rintro e w' ⟨rfl, rfl⟩)
        go_round
        case rel => exact ⟨j, z, B / 2, by omega, by first | rfl | go_num, by go_num, Lib.hid Hf.out.2, ho, Lib.hid (by rw [Hf.out.1]; simp)⟩
        case measure => simp [intOf]; omega
      | false =>
        rw [hx] at hcall Hf
        clear hx
        go_wp2_with (go_at_call 71; refine hcall.mono ?_; rintro e w' ⟨rfl, rfl⟩)
        go_round
        case rel => exact ⟨j, r, B / 2, by omega, rfl, by go_num, Lib.hid Hf.out.2, hr, Lib.hid (by rw [Hf.out.1, if_neg (by decide)])⟩
        case measure => simp [intOf]; omega

set_option maxRecDepth 100000 in
set_option maxHeartbeats 2000000 in
theorem cuc_any (pn n r : Nat) (hr : r < 34359738368) (hn : n < 1000) (w : World) (hc : w.cell? ⟨pn, 0, none⟩ = some (.int .u64 (n : Int))) :
    Calls Tryz.prog 73 #[.int .u64 (r : Int), .pointer (some ⟨pn, 0, none⟩)] w fun e w' => e = .returned (.bool (cuB n r)) ∧ w' = w := by
  have h := cu_any r n hr hn w
  obtain ⟨x, hx⟩ : ∃ x, cuB n r = x := ⟨_, rfl⟩
  rw [hx] at h ⊢
  clear hx
  go_enter Tryz.func73, Tryz.ntmps73
  go_wp2_with (go_at_call 74; refine h.mono ?_; rintro e w' ⟨rfl, rfl⟩)
  go_ret
  exact ⟨rfl, rfl⟩

set_option maxRecDepth 100000 in
set_option maxHeartbeats 2000000 in
theorem frac_cuc (pn n : Nat) (hn : n < 1000) (w : World) (hc : w.cell? ⟨pn, 0, none⟩ = some (.int .u64 (n : Int))) :
    Calls Tryz.prog 70 #[.func (.func 73) #[] #[.pointer (some ⟨pn, 0, none⟩)]] w fun e w' => e = .returned (.int .u32 ((fracP (cuB n) 35 0 % 4294967296 : Nat) : Int)) ∧ w' = w := by
  go_enter Tryz.func70, Tryz.ntmps70
  go_wp2
  go_loop [3, 4] (fun rv bv => ∃ (k r B : Nat), k ≤ 35 ∧ rv = .int .u64 r ∧ bv = .int .u64 B ∧ Hid (B = 2 ^ k / 2) ∧ r < 34359738368 ∧ Hid (fracP (cuB n) 35 0 = fracP (cuB n) k r)) (fun _ bv => (intOf bv).toNat)
  case atStart => exact ⟨35, 0, 17179869184, by omega, rfl, rfl, Lib.hid (by decide), by omega, Lib.hid rfl⟩
  case round =>
    obtain ⟨k, r, B, hk, rfl, rfl, hB, hr, hf⟩ := hrel
    match k, hk, hB, hf with
    | 0, hk, hB, hf =>
      obtain rfl : B = 0 := hB.out
      have e := hf.out
      rw [fracP] at e
      have He := Lib.hid e
      clear e hf hB
      go_wp2
      go_ret
      exact ⟨by rw [He.out]; push_cast; rfl, rfl⟩
    | j + 1, hk, hB, hf =>
      have hBj : B = 2 ^ j := by
        rw [hB.out, Nat.pow_succ]
        omega
      have hB1 : 0 < B := by rw [hBj]; exact Nat.two_pow_pos j
      have hB2 : B < 34359738368 := by rw [hBj]; exact Nat.lt_of_lt_of_le (Nat.pow_lt_pow_right (by omega) (by omega : j < 35)) (by decide)
      have hor := bits_or_u64_nat r B (by omega) (by omega)
      have ho : r ||| B < 34359738368 := Nat.or_lt_two_pow (n := 35) hr hB2
      have hf2 : fracP (cuB n) 35 0 = fracP (cuB n) j (if cuB n (r ||| B) = true then r ||| B else r) := by
        rw [hf.out, fracP, hBj]
      have hhalf : B / 2 = 2 ^ j / 2 := by rw [hBj]
      obtain ⟨z, hz⟩ : ∃ z, r ||| B = z := ⟨_, rfl⟩
      rw [hz] at hor ho hf2
      have hcall := cuc_any pn n z ho hn w hc
      have Hf := Lib.hid (And.intro hf2 hhalf)
      clear hf2 hhalf hz hBj hB hf
      cases hx : cuB n z with
      | true =>
        rw [hx] at hcall Hf
        clear hx
        go_wp2_with (go_at_call 73; refine hcall.mono ?_; rintro e w' ⟨rfl, rfl⟩)
        go_round
        case rel => exact ⟨j, z, B / 2, by omega, by first | rfl | go_num, by go_num, Lib.hid Hf.out.2, ho, Lib.hid (by rw [Hf.out.1]; simp)⟩
        case measure => simp [intOf]; omega
      | false =>
        rw [hx] at hcall Hf
        clear hx
        go_wp2_with (go_at_call 73; refine hcall.mono ?_; rintro e w' ⟨rfl, rfl⟩)
        go_round
        case rel => exact ⟨j, r, B / 2, by omega, rfl, by go_num, Lib.hid Hf.out.2, hr, Lib.hid (by rw [Hf.out.1, if_neg (by decide)])⟩
        case measure => simp [intOf]; omega

/-- The primes below. -/
def primesP (n : Nat) : List Nat := (List.range n).filter fun x => decide (2 ≤ x) && primeB x
theorem primes_succ (n : Nat) : primesP (n + 1) = primesP n ++ if (decide (2 ≤ n) && primeB n) = true then [n] else [] := by
  unfold primesP
  rw [List.range_succ, List.filter_append, List.filter_cons, List.filter_nil]
theorem primes_more (n : Nat) : ∀ d, ∃ t, primesP (n + d) = primesP n ++ t
  | 0 => ⟨[], by simp⟩
  | d + 1 => by
    obtain ⟨t, ht⟩ := primes_more n d
    exact ⟨t ++ (if (decide (2 ≤ n + d) && primeB (n + d)) = true then [n + d] else []), by rw [← Nat.add_assoc, primes_succ, ht, List.append_assoc]⟩
theorem primes_312 : (primesP 312).length = 64 := by decide +kernel
/-- The first 64 primes. -/
def primes64 : List Nat := primesP 312
theorem primes_lt {n : Nat} (h : (primesP n).length < 64) : n < 312 := by
  rcases Nat.lt_or_ge n 312 with h2 | h2
  · exact h2
  · obtain ⟨t, ht⟩ := primes_more 312 (n - 312)
    rw [show 312 + (n - 312) = n by omega] at ht
    rw [ht, List.length_append, primes_312] at h
    omega
theorem primes_all {n : Nat} (h : (primesP n).length = 64) : primesP n = primes64 := by
  rcases Nat.lt_or_ge n 312 with h2 | h2
  · obtain ⟨t, ht⟩ := primes_more n (312 - n)
    rw [show n + (312 - n) = 312 by omega] at ht
    have hl := congrArg List.length ht
    rw [primes_312, List.length_append, h] at hl
    have : t = [] := List.eq_nil_of_length_eq_zero (by omega)
    rw [this, List.append_nil] at ht
    exact ht.symm
  · obtain ⟨t, ht⟩ := primes_more 312 (n - 312)
    rw [show 312 + (n - 312) = n by omega] at ht
    have hl := congrArg List.length ht
    rw [h, List.length_append, primes_312] at hl
    have : t = [] := List.eq_nil_of_length_eq_zero (by omega)
    rw [this, List.append_nil] at ht
    exact ht
def sqF (n : Nat) : Int := ((fracP (sqB n) 35 0 % 4294967296 : Nat) : Int)
def cuF (n : Nat) : Int := ((fracP (cuB n) 35 0 % 4294967296 : Nat) : Int)
/-- A digest's cells, of so many primes. -/
structure TabOk (cs : Array Value) (k : Nat) (L : List Nat) : Prop where
  st : ∀ j (h : j < L.length), j < 8 → cs[k + j]? = some (.int .u32 (sqF L[j]))
  ad : ∀ j (h : j < L.length), cs[k + 8 + j]? = some (.int .u32 (cuF L[j]))
theorem TabOk.out {cs cs' : Array Value} {k : Nat} {L : List Nat} (h : TabOk cs k L) (hs : ∀ j, j < L.length → cs'[k + 8 + j]? = cs[k + 8 + j]?) (h2 : ∀ j, j < L.length → j < 8 → cs'[k + j]? = cs[k + j]?) : TabOk cs' k L :=
  ⟨fun j hj h8 => (h2 j hj h8).trans (h.st j hj h8), fun j hj => (hs j hj).trans (h.ad j hj)⟩
/-- A block of cells. -/
def Held9 (w : World) (b : Nat) (cs : Array Value) (T : TypeId) : Prop := w.heap[b]? = some (.cells cs T (0, 0))
/-- Alike but for a digest's cells. -/
def Same72 (cs cs' : Array Value) (k : Nat) : Prop := cs'.size = cs.size ∧ ∀ j, (j < k ∨ k + 72 ≤ j) → cs'[j]? = cs[j]?
/-- Words all over. -/
def Words72 (cs : Array Value) (k : Nat) : Prop := ∀ j, j < 72 → ∃ x : Int, cs[k + j]? = some (.int .u32 x)
theorem set_get9 (cs : Array Value) (j i : Nat) (v : Value) (hj : j < cs.size) : (cs.setIfInBounds j v)[i]? = if i = j then some v else cs[i]? := by
  rw [Array.getElem?_setIfInBounds]
  by_cases h : i = j
  · subst h; simp [hj]
  · rw [if_neg (fun e => h e.symm), if_neg h]

end Go.Proofs.YtcjmpkfcjcoobaaGreat
