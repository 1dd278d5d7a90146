/-
  What quoted.standsAsItself and quoted.Sign come to: told by the plain functions.
-/
import Derived.Test.YtfbnifioifghlaaDoorR4A
import Derived.Deep.QuietTactic
import Derived.Deep.RegionWith
import Derived.Laws.BitsLemmas
namespace Go.Proofs.YtfbnifioifghlaaDoor
open Go.RowKit

set_option maxRecDepth 100000 in
set_option maxHeartbeats 1600000 in
theorem stands_any (c : UInt8) (last : Bool) (w : World) : Calls Tryd.prog 25 #[.int .u8 (c.toNat : Int), .bool last] w fun e w' => e = .returned (.bool (plainQ c last)) ∧ w' = w := by
  have hcl : c.toNat < 256 := c.toNat_lt
  rcases (by omega : (33 ≤ c.toNat ∧ c.toNat ≤ 126 ∧ c.toNat ≠ 61) ∨ c.toNat = 61 ∨ c.toNat = 32 ∨ c.toNat = 9 ∨ (c.toNat < 33 ∧ c.toNat ≠ 32 ∧ c.toNat ≠ 9) ∨ 126 < c.toNat) with h | h | h | h | h | h
  · have f0 : ((c.toNat : Int) != 61) = true := by rw [bne_iff_ne]; omega
    have f1 : ((c.toNat : Int) == 32) = false := by rw [beq_eq_false_iff_ne]; omega
    have f2 : ((c.toNat : Int) == 9) = false := by rw [beq_eq_false_iff_ne]; omega
    have f3 : decide ((c.toNat : Int) > 32) = true := decide_eq_true (by omega)
    have f4 : decide ((c.toNat : Int) ≤ 126) = true := decide_eq_true (by omega)
    rw [show plainQ c last = true from plain_mid last (by omega) (by omega) (by omega)]
    clear h hcl
    go_enter Tryd.func25, Tryd.ntmps25
    go_wp2
    go_ret
    exact ⟨congrArg (fun b => Ending.returned (Value.bool b)) f0, rfl⟩
  · have f0 : ((c.toNat : Int) != 61) = false := by rw [bne_eq_false_iff_eq]; omega
    have f1 : ((c.toNat : Int) == 32) = false := by rw [beq_eq_false_iff_ne]; omega
    have f2 : ((c.toNat : Int) == 9) = false := by rw [beq_eq_false_iff_ne]; omega
    have f3 : decide ((c.toNat : Int) > 32) = true := decide_eq_true (by omega)
    have f4 : decide ((c.toNat : Int) ≤ 126) = true := decide_eq_true (by omega)
    rw [show plainQ c last = false from plain_no last (by omega)]
    clear h hcl
    go_enter Tryd.func25, Tryd.ntmps25
    go_wp2
    go_ret
    exact ⟨congrArg (fun b => Ending.returned (Value.bool b)) f0, rfl⟩
  · have f1 : ((c.toNat : Int) == 32) = true := by rw [beq_iff_eq]; omega
    rw [show plainQ c last = !last from plain_blank (by omega) last]
    clear h hcl
    go_enter Tryd.func25, Tryd.ntmps25
    go_wp2
    go_ret
    exact ⟨rfl, rfl⟩
  · have f1 : ((c.toNat : Int) == 32) = false := by rw [beq_eq_false_iff_ne]; omega
    have f2 : ((c.toNat : Int) == 9) = true := by rw [beq_iff_eq]; omega
    rw [show plainQ c last = !last from plain_blank (by omega) last]
    clear h hcl
    go_enter Tryd.func25, Tryd.ntmps25
    go_wp2
    go_ret
    exact ⟨rfl, rfl⟩
  · have f1 : ((c.toNat : Int) == 32) = false := by rw [beq_eq_false_iff_ne]; omega
    have f2 : ((c.toNat : Int) == 9) = false := by rw [beq_eq_false_iff_ne]; omega
    have f3 : decide ((c.toNat : Int) > 32) = false := decide_eq_false (by omega)
    rw [show plainQ c last = false from plain_no last (by omega)]
    clear h hcl
    go_enter Tryd.func25, Tryd.ntmps25
    go_wp2
    go_ret
    exact ⟨rfl, rfl⟩
  · have f1 : ((c.toNat : Int) == 32) = false := by rw [beq_eq_false_iff_ne]; omega
    have f2 : ((c.toNat : Int) == 9) = false := by rw [beq_eq_false_iff_ne]; omega
    have f3 : decide ((c.toNat : Int) > 32) = true := decide_eq_true (by omega)
    have f4 : decide ((c.toNat : Int) ≤ 126) = false := decide_eq_false (by omega)
    rw [show plainQ c last = false from plain_no last (by omega)]
    clear h hcl
    go_enter Tryd.func25, Tryd.ntmps25
    go_wp2
    go_ret
    exact ⟨rfl, rfl⟩

theorem wraps_u8 (n : Int) (h0 : 0 ≤ n) (h1 : n < 2 ^ 8) : IntKind.u8.wrap n = n := by rw [IntKind.wrap_u8]; omega
theorem mask15 (a : Nat) (ha : a < 256) : bits .and .u8 (a : Int) 15 = ((a % 16 : Nat) : Int) := by
  have := bits_mask .u8 8 (by decide) wraps_u8 4 (by decide) a (Int.natCast_nonneg _) (by exact_mod_cast ha)
  rw [show (2 : Int) ^ 4 - 1 = 15 from by decide] at this
  rw [this]
  push_cast
  rfl
theorem digits_fin : ∀ v : Fin 16, (⟨#[48, 49, 50, 51, 52, 53, 54, 55, 56, 57, 65, 66, 67, 68, 69, 70]⟩ : ByteArray)[v.val]'(v.isLt) = digB v.val := by decide +kernel
theorem digits_at (v : Nat) (h : v < 16) : (⟨#[48, 49, 50, 51, 52, 53, 54, 55, 56, 57, 65, 66, 67, 68, 69, 70]⟩ : ByteArray)[v]'(h) = digB v := digits_fin ⟨v, h⟩

theorem conv_two (a b : UInt8) (W : World) : (convert 35 9 (.slice (some ⟨W.heap.size, 0, none⟩) 2 2)).run Tryd.prog (W.alloc (.cells #[.int .u8 (a.toNat : Int), .int .u8 (b.toNat : Int)] 5)) = .ok (.string ⟨#[a, b]⟩) (W.alloc (.cells #[.int .u8 (a.toNat : Int), .int .u8 (b.toNat : Int)] 5)) := by
  have := run_convert_bytes_arg (P := Tryd.prog) (W.alloc (.cells #[.int .u8 (a.toNat : Int), .int .u8 (b.toNat : Int)] 5)) 35 5 Tryd.underlying35 Tryd.underlying5 W.heap.size 0 2 2 [(a.toNat : Int), (b.toNat : Int)] rfl (fun i hi => by
    rcases (by omega : i = 0 ∨ i = 1) with rfl | rfl <;> go_simp) 9 Tryd.underlying9
  rw [this]
  unfold strOfNums
  simp

set_option maxRecDepth 100000 in
set_option maxHeartbeats 1600000 in
theorem q4sign_any (c : UInt8) (last : Bool) (w : World) : Calls Tryd.prog 14 #[.int .u8 (c.toNat : Int), .bool last] w fun e w' => e = .returned (.string ⟨(signB c last).toArray⟩) ∧ Below w.heap.size w w' := by
  have hcl : c.toNat < 256 := c.toNat_lt
  have hbw := Below.refl w.heap.size w
  have v1 := conv_one c w
  have hst := stands_any c last
  cases hp : plainQ c last with
  | true =>
    rw [hp] at hst
    rw [sign_plain hp]
    clear hp
    go_enter Tryd.func14, Tryd.ntmps14
    go_wp2_with (go_at_call 25; refine (hst _).mono ?_; rintro e w2 ⟨rfl, rfl⟩)
    go_ret
    exact ⟨rfl, hbw.alloc (Nat.le_refl _) _⟩
  | false =>
    rw [hp] at hst
    rw [sign_coded hp]
    have m15 := mask15 c.toNat hcl
    have hx : c.toNat / 16 < 16 := by omega
    have hy : c.toNat % 16 < 16 := by omega
    have v2 := conv_two (digB (c.toNat / 16)) (digB (c.toNat % 16)) w.drew
    have v3 : (convert 35 9 (.slice (some ⟨w.heap.size, 0, none⟩) 2 2)).run Tryd.prog (w.alloc (.cells #[.int .u8 ((digB (c.toNat / 16)).toNat : Int), .int .u8 ((digB (c.toNat % 16)).toNat : Int)] 5)).drew = .ok (.string ⟨#[digB (c.toNat / 16), digB (c.toNat % 16)]⟩) (w.alloc (.cells #[.int .u8 ((digB (c.toNat / 16)).toNat : Int), .int .u8 ((digB (c.toNat % 16)).toNat : Int)] 5)).drew := v2
    have i1 : ((⟨#[48, 49, 50, 51, 52, 53, 54, 55, 56, 57, 65, 66, 67, 68, 69, 70]⟩ : ByteArray)[((c.toNat : Int) / 16).toNat]'(by show _ < 16; omega)).toNat = (digB (c.toNat / 16)).toNat := congrArg UInt8.toNat (digits_at (c.toNat / 16) hx)
    have i2 : ((⟨#[48, 49, 50, 51, 52, 53, 54, 55, 56, 57, 65, 66, 67, 68, 69, 70]⟩ : ByteArray)[((c.toNat : Int) % 16).toNat]'(by show _ < 16; omega)).toNat = (digB (c.toNat % 16)).toNat := congrArg UInt8.toNat (digits_at (c.toNat % 16) hy)
    clear hp
    go_enter Tryd.func14, Tryd.ntmps14
    go_wp2_with (go_at_call 25; refine (hst _).mono ?_; rintro e w2 ⟨rfl, rfl⟩)
    go_region_with (fail)
    all_goals
      (try go_wp2)
      go_ret
      exact ⟨rfl, (hbw.alloc (Nat.le_refl _) _).drew⟩
end Go.Proofs.YtfbnifioifghlaaDoor
