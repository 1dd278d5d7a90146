/-
  The document's answer of layer 2, written in Go: what passes, told by the plain function that tells the program. Condition: the text is shorter than 4294967281 bytes.
-/
import Derived.Test.YtkjiaklpffnhlaaDoorRefM2
namespace Go.Proofs.YtkjiaklpffnhlaaDoor
open Go.RowKit

set_option maxRecDepth 100000 in
set_option maxHeartbeats 2000000 in
theorem rcheck_any_m (B n c n' c' : Nat) (A A' : Option Addr) (ss ss' : List ByteArray) (la : Int) (ca : Nat) (s : ByteArray) (w : World) (hB : B ≤ w.heap.size) (h1 : Strs w B A n c ss) (h2 : Strs w B A' n' c' ss') (hsz : ∀ s ∈ ss ++ ss', s.size ≤ maxLen)
    (hs : s.size < 4294967281) (hca : ca < 18446744073709551616) :
    Calls Tryd.prog 34 #[.agg #[.slice A n c, .slice A' n' c'], .agg #[.int .i64 la, .int .u64 ca], .string s] w fun e w' => e = .returned (.int .i64 (checkB ss ss' la ca s.data.toList)) ∧ Below w.heap.size w w' := by
  have hb0 : Below w.heap.size w ((w.alloc (.cells #[.slice A n c, .slice A' n' c'] 24)).alloc (.cells #[.int .i64 la, .int .u64 ca] 27)) := ((Below.refl _ _).alloc (Nat.le_refl _) _).alloc (by simp) _
  have hra := rread_any B n c n' c' A A' ss ss' s ((w.alloc (.cells #[.slice A n c, .slice A' n' c'] 24)).alloc (.cells #[.int .i64 la, .int .u64 ca] 27)) (by simp; omega) (h1.below (hb0.mono hB)) (h2.below (hb0.mono hB)) hsz hs
  have hck : checkB ss ss' la ca s.data.toList = if (readB ss ss' s.data.toList).2.2 = 0 then (if domB la ca (readB ss ss' s.data.toList).1.1 (readB ss ss' s.data.toList).1.2 = true then 0 else 8) else (readB ss ss' s.data.toList).2.2 := rfl
  have hbits := read_bits (ls := ss) (cs := ss') s.data.toList
  generalize readB ss ss' s.data.toList = r at hra hck hbits
  obtain ⟨⟨L, k⟩, rest, code⟩ := r
  simp only [readV] at hra hck hbits
  obtain ⟨hb1, hb2⟩ := hbits
  obtain ⟨k, rfl⟩ := Int.eq_ofNat_of_zero_le hb1
  have hk64 : k < 18446744073709551616 := by omega
  clear hb1 hb2
  rw [hck]
  clear hck h1 h2
  by_cases hcd : code = 0
  · subst hcd
    rw [if_pos rfl]
    obtain ⟨x, hx⟩ : ∃ x, domB la ca L k = x := ⟨_, rfl⟩
    rw [hx]
    have Hx := Lib.hid hx
    clear hx
    go_enter Tryd.func34, Tryd.ntmps34
    go_wp2_with fail
    refine hra.mono ?_
    rintro e w1 ⟨rfl, hb1⟩
    have b0 : w1.cell? ⟨w.heap.size + 1, 0, none⟩ = some (.int .i64 la) := by rw [hb1.cell (by simp)]; go_simp
    have b1 : w1.cell? ⟨w.heap.size + 1, 1, none⟩ = some (.int .u64 ca) := by rw [hb1.cell (by simp)]; go_simp
    have hz1 : w.heap.size + 1 < w1.heap.size := by have := hb1.size; simp at this; omega
    have hbw := (hb0.trans (hb1.mono (by simp; omega)))
    clear hb1 hb0 hra
    go_wp2_with fail
    refine (rdom_any la L ca k _ hca hk64).mono ?_
    rintro e w2 ⟨rfl, hb2⟩
    rw [Hx.out]
    have hbw2 := (hbw.alloc (by omega) (.cells #[.int .i64 L, .int .u64 k] 27)).trans (hb2.mono (by simp; omega))
    cases x
    all_goals
      go_wp2
      go_ret
      exact ⟨rfl, hbw2⟩
  · rw [if_neg hcd]
    have hcb : (code == 0) = false := by simp [hcd]
    have hcn : (code != 0) = true := by simp [hcd]
    go_enter Tryd.func34, Tryd.ntmps34
    go_wp2_with fail
    refine hra.mono ?_
    rintro e w1 ⟨rfl, hb1⟩
    have hbw := (hb0.trans (hb1.mono (by simp; omega)))
    have hz1 : w.heap.size ≤ w1.heap.size := by have := hb1.size; simp at this; omega
    clear hb1 hb0 hra
    go_wp2
    go_ret
    exact ⟨rfl, hbw.alloc hz1 _⟩
end Go.Proofs.YtkjiaklpffnhlaaDoor
