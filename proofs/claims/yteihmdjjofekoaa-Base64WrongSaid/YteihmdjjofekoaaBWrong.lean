/-
  Base64Wrong returns true, for any text, any place and any byte: the walk.
-/
import Derived.Test.YteihmdjjofekoaaAwake3
import Derived.Test.YteihmdjjofekoaaB64L
import Derived.Deep.RegionHeld3
import Derived.Deep.RegionWith
namespace Go.Proofs.Yteihmdjjofekoaa
open Go.RowKit

theorem wrong_data (a b : ByteArray) : (a ++ b).data.toList = a.data.toList ++ b.data.toList := by simp
theorem piece_to (s : ByteArray) (k : Nat) : (s.extract 0 k).data.toList = s.data.toList.take k := by rw [Lib.extract_data, List.drop_zero, Nat.sub_zero]
theorem piece_from (s : ByteArray) (k : Nat) : (s.extract k s.size).data.toList = s.data.toList.drop k := Lib.extract_to_end s k

set_option maxRecDepth 100000 in
set_option maxHeartbeats 4000000 in
theorem bwrong_walk (s : ByteArray) (i1 i2 : Int) (m : Int) (w : World) (hm : w.cell? ⟨0, 0, none⟩ = some (.int .i64 m)) (hs : s.size ≤ maxLen) (w1 : (Lit.int .i64 i1).wf = true) (w2 : (Lit.int .u8 i2).wf = true) :
    Calls Try.prog 8 #[.string s, .int .i64 i1, .int .u8 i2] w fun e w' => e = .returned (.bool true) ∧ Below w.heap.size w w' := by
  have haw := awake3_any m w hm
  obtain ⟨c, rfl⟩ : ∃ c : UInt8, i2 = (c.toNat : Int) := by
    simp only [Lit.wf, Bool.and_eq_true, decide_eq_true_eq] at w2
    have h0 : (0 : Int) ≤ i2 := by have : IntKind.u8.min = 0 := by decide
                                   omega
    have h1 : i2 ≤ 255 := by have : IntKind.u8.max = 255 := by decide
                             omega
    obtain ⟨k, rfl⟩ := Int.eq_ofNat_of_zero_le h0
    exact ⟨UInt8.ofNat k, by rw [UInt8.toNat_ofNat_of_lt' (by show k < 256; omega)]⟩
  have hi1 : i1 ≤ 9223372036854775807 := by
    simp only [Lit.wf, Bool.and_eq_true, decide_eq_true_eq] at w1
    have : IntKind.i64.max = 9223372036854775807 := by decide
    omega
  unfold maxLen at hs
  clear w1 w2
  go_enter Try.func8, Try.ntmps8
  go_wp2_with fail
  refine haw.mono ?_
  rintro e wa ⟨rfl, hwa⟩
  clear haw hm
  by_cases h1 : 2000 < s.size
  · go_wp2
    go_ret
    exact ⟨rfl, hwa⟩
  by_cases h2 : s.size = 0
  · have hb : ((s.size : Int) == 0) = true := by rw [beq_iff_eq]; omega
    go_wp2
    go_ret
    exact ⟨rfl, hwa⟩
  have hb : ((s.size : Int) == 0) = false := by rw [beq_eq_false_iff_ne]; omega
  by_cases h3 : i1 < 0
  · go_wp2
    go_ret
    exact ⟨rfl, hwa⟩
  obtain ⟨a, rfl⟩ := Int.eq_ofNat_of_zero_le (show 0 ≤ i1 by omega)
  have he := enc_any s wa (by omega)
  have hel := enc_len s.data.toList
  obtain ⟨l, hl⟩ : ∃ l : ByteArray, l = ⟨(encB s.data.toList).toArray⟩ := ⟨_, rfl⟩
  have hld : l.data.toList = encB s.data.toList := by rw [hl]
  have hls : l.size = (s.size + 2) / 3 * 4 := by
    have h1 : l.size = (encB s.data.toList).length := by rw [hl]; rfl
    have h2 : s.data.toList.length = s.size := rfl
    omega
  rw [← hl] at he
  have hlb1 : 4 ≤ l.size := by omega
  have hlb2 : l.size ≤ 4000 := by omega
  obtain ⟨K, hK⟩ : ∃ K : Nat, (a : Int) % (l.size : Int) = K := Int.eq_ofNat_of_zero_le (Int.emod_nonneg _ (by omega))
  have hKl : K < l.size := by
    have := Int.emod_lt_of_pos (a : Int) (show (0 : Int) < l.size by omega)
    omega
  have hll : l.data.toList.length = l.size := rfl
  have D1 : Hid (∀ W, Below w.heap.size w W → Calls Try.prog 10 #[.string (l.extract 0 K ++ l.extract (K + 1) l.size)] W fun e w' => e = .returned (.tuple #[.string ⟨#[]⟩, .int .i64 2]) ∧ Below w.heap.size w w') := Lib.hid fun W hW => by
    have hz : (l.extract 0 K ++ l.extract (K + 1) l.size).size ≤ 100000000 := by
      rw [ByteArray.size_append, ByteArray.size_extract, ByteArray.size_extract]
      omega
    refine (dec_any _ W hz).mono ?_
    rintro e w' ⟨rfl, hw'⟩
    rw [wrong_data, piece_to, piece_from, hld, dec_less (by rw [← hld, hll]; exact hKl)]
    exact ⟨rfl, hW.trans (hw'.mono hW.size)⟩
  have D2 : Hid (∀ W, Below w.heap.size w W → Calls Try.prog 10 #[.string (l ++ l.extract 0 1)] W fun e w' => e = .returned (.tuple #[.string ⟨#[]⟩, .int .i64 2]) ∧ Below w.heap.size w w') := Lib.hid fun W hW => by
    have hz : (l ++ l.extract 0 1).size ≤ 100000000 := by
      rw [ByteArray.size_append, ByteArray.size_extract]
      omega
    refine (dec_any _ W hz).mono ?_
    rintro e w' ⟨rfl, hw'⟩
    rw [wrong_data, piece_to, hld, dec_more (k := K) (by rw [← hld, hll]; exact hKl)]
    exact ⟨rfl, hW.trans (hw'.mono hW.size)⟩
  have D3h : Hid (¬ ((65 ≤ c.toNat ∧ c.toNat ≤ 90) ∨ (97 ≤ c.toNat ∧ c.toNat ≤ 122) ∨ (48 ≤ c.toNat ∧ c.toNat ≤ 57) ∨ c.toNat = 43 ∨ c.toNat = 47 ∨ c.toNat = 61) → ∀ W, Below w.heap.size w W → Calls Try.prog 10 #[.string (l.extract 0 K ++ ⟨#[c]⟩ ++ l.extract (K + 1) l.size)] W fun e w' => e = .returned (.tuple #[.string ⟨#[]⟩, .int .i64 2]) ∧ Below w.heap.size w w') := Lib.hid fun hc W hW => by
    have hz : (l.extract 0 K ++ ⟨#[c]⟩ ++ l.extract (K + 1) l.size).size ≤ 100000000 := by
      rw [ByteArray.size_append, ByteArray.size_append, ByteArray.size_extract, ByteArray.size_extract]
      have : (⟨#[c]⟩ : ByteArray).size = 1 := rfl
      omega
    refine (dec_any _ W hz).mono ?_
    rintro e w' ⟨rfl, hw'⟩
    have e1 : (l.extract 0 K ++ ⟨#[c]⟩ ++ l.extract (K + 1) l.size).data.toList = (encB s.data.toList).take K ++ c :: (encB s.data.toList).drop (K + 1) := by
      rw [wrong_data, wrong_data, piece_to, piece_from, hld, List.append_assoc]
      rfl
    rw [e1, dec_other c hc]
    exact ⟨rfl, hW.trans (hw'.mono hW.size)⟩
  have hwb0 : Hid (Below w.heap.size w wa) := Lib.hid hwa
  clear hls hel hl
  go_wp2_with fail
  refine he.mono ?_
  rintro e wb ⟨rfl, hwb⟩
  have bb := hwa.trans (hwb.mono hwa.size)
  clear he hwb hwa
  go_wp2
  rw [hK]
  have f1 : (0 : Int) ≤ (K : Int) := by omega
  have f2 : (K : Int) ≤ (l.size : Int) := by omega
  have f3 : (0 : Int) ≤ (K : Int) + 1 := by omega
  have f4 : (K : Int) + 1 ≤ (l.size : Int) := by omega
  have f5 : IntKind.i64.wrap ((K : Int) + 1) = (K : Int) + 1 := by
    have h := IntWalk.wrap64_in ((K : Int) + 1) (by omega)
    unfold wrap64 at h
    rw [IntKind.wrap_i64]
    exact h
  have f7 : ¬ 9223372036854775807 < K + (l.size - (K + 1)) := by omega
  have f6 : K ≤ l.size := by omega
  have f8 : ¬ 9223372036854775807 < K + 1 := by omega
  have f9 : ¬ 9223372036854775807 < K + 1 + (l.size - (K + 1)) := by omega
  go_region_held3 (fun W => Below w.heap.size w W)
    (first | assumption | exact Below.drew (by assumption) | (trace_state; fail))
    (first | (go_at_call 10; refine (D1.out _ ?_).mono ?_; assumption; rintro e w2 ⟨rfl, hb2⟩))
  have hcl := c.toNat_lt
  have hcs : ∀ W : World, (convert 36 9 (.slice (some ⟨W.heap.size, 0, none⟩) 1 1)).run Try.prog (W.alloc (.cells #[.int .u8 (c.toNat : Int)] 5)) = .ok (.string ⟨#[c]⟩) (W.alloc (.cells #[.int .u8 (c.toNat : Int)] 5)) := fun W => by
    have := run_convert_bytes_arg (P := Try.prog) (W.alloc (.cells #[.int .u8 (c.toNat : Int)] 5)) 36 5 Try.underlying36 Try.underlying5 W.heap.size 0 1 1 [(c.toNat : Int)] rfl (fun i hi => by
      obtain rfl : i = 0 := by omega
      go_simp) 9 Try.underlying9
    rw [this]
    unfold strOfNums
    simp
  have hcs2 : ∀ W : World, (convert 36 9 (.slice (some ⟨W.heap.size, 0, none⟩) 1 1)).run Try.prog (W.alloc (.cells #[.int .u8 (c.toNat : Int)] 5)).drew = .ok (.string ⟨#[c]⟩) (W.alloc (.cells #[.int .u8 (c.toNat : Int)] 5)).drew := fun W => by
    have := run_convert_bytes_arg (P := Try.prog) (W.alloc (.cells #[.int .u8 (c.toNat : Int)] 5)).drew 36 5 Try.underlying36 Try.underlying5 W.heap.size 0 1 1 [(c.toNat : Int)] rfl (fun i hi => by
      obtain rfl : i = 0 := by omega
      go_simp) 9 Try.underlying9
    rw [this]
    unfold strOfNums
    simp
  have hcs3 : ∀ W : World, (convert 36 9 (.slice (some ⟨W.heap.size, 0, none⟩) 1 1)).run Try.prog (W.drew.alloc (.cells #[.int .u8 (c.toNat : Int)] 5)) = .ok (.string ⟨#[c]⟩) (W.drew.alloc (.cells #[.int .u8 (c.toNat : Int)] 5)) := fun W => by
    have := run_convert_bytes_arg (P := Try.prog) (W.drew.alloc (.cells #[.int .u8 (c.toNat : Int)] 5)) 36 5 Try.underlying36 Try.underlying5 W.heap.size 0 1 1 [(c.toNat : Int)] rfl (fun i hi => by
      obtain rfl : i = 0 := by omega
      go_simp) 9 Try.underlying9
    rw [this]
    unfold strOfNums
    simp
  rcases (by omega : (65 ≤ c.toNat ∧ c.toNat ≤ 90) ∨ (97 ≤ c.toNat ∧ c.toNat ≤ 122) ∨ (48 ≤ c.toNat ∧ c.toNat ≤ 57) ∨ c.toNat = 43 ∨ c.toNat = 47 ∨ c.toNat = 61 ∨ c.toNat < 43 ∨ (44 ≤ c.toNat ∧ c.toNat ≤ 46) ∨ (58 ≤ c.toNat ∧ c.toNat ≤ 60) ∨ (62 ≤ c.toNat ∧ c.toNat ≤ 64) ∨ (91 ≤ c.toNat ∧ c.toNat ≤ 96) ∨ 122 < c.toNat) with h | h | h | h | h | h | h | h | h | h | h | h
  · go_wp2_with (go_at_call 10; refine (D2.out _ (by assumption)).mono ?_; rintro e w3 ⟨rfl, hb3⟩)
    go_ret
    exact ⟨rfl, hb3⟩
  · go_wp2_with (go_at_call 10; refine (D2.out _ (by assumption)).mono ?_; rintro e w3 ⟨rfl, hb3⟩)
    go_ret
    exact ⟨rfl, hb3⟩
  · go_wp2_with (go_at_call 10; refine (D2.out _ (by assumption)).mono ?_; rintro e w3 ⟨rfl, hb3⟩)
    go_ret
    exact ⟨rfl, hb3⟩
  · go_wp2_with (go_at_call 10; refine (D2.out _ (by assumption)).mono ?_; rintro e w3 ⟨rfl, hb3⟩)
    go_ret
    exact ⟨rfl, hb3⟩
  · go_wp2_with (go_at_call 10; refine (D2.out _ (by assumption)).mono ?_; rintro e w3 ⟨rfl, hb3⟩)
    go_ret
    exact ⟨rfl, hb3⟩
  · go_wp2_with (go_at_call 10; refine (D2.out _ (by assumption)).mono ?_; rintro e w3 ⟨rfl, hb3⟩)
    go_ret
    exact ⟨rfl, hb3⟩
  all_goals
    have b43 : ((c.toNat : Int) == 43) = false := by rw [beq_eq_false_iff_ne]; omega
    have b47 : ((c.toNat : Int) == 47) = false := by rw [beq_eq_false_iff_ne]; omega
    have b61 : ((c.toNat : Int) == 61) = false := by rw [beq_eq_false_iff_ne]; omega
    have D3 := D3h.out (by omega)
    have D3 := Lib.hid D3
    go_wp2_with (go_at_call 10; refine (D2.out _ (by assumption)).mono ?_; rintro e w3 ⟨rfl, hb3⟩)
    clear h hb2
    go_region_with (first
      | (go_at_call 10; refine (D3.out _ ?_).mono ?_; (first | exact Below.drew (Below.alloc hb3 (Below.size hb3) _) | exact Below.alloc (Below.drew hb3) (Below.size hb3) _); rintro e w5 ⟨rfl, hb5⟩))
    go_wp2
    go_ret
    exact ⟨rfl, by assumption⟩
end Go.Proofs.Yteihmdjjofekoaa
