/-
  What base64.writeRow comes to at one to three bytes, and base64.Encode at any: told by the plain function.
-/
import Derived.Test.YtjkcjbbkplonkaaDoorBuild1
import Derived.Test.YtjkcjbbkplonkaaDoorE64P
import Derived.Test.YtjkcjbbkplonkaaDoorShelf
import Derived.Deep.QuietTactic
import Derived.Laws.BitsLemmas
namespace Go.Proofs.YtjkcjbbkplonkaaDoor
open Go.RowKit

theorem wraps_u32 (n : Int) (h0 : 0 ≤ n) (h1 : n < 2 ^ 32) : IntKind.u32.wrap n = n := by rw [IntKind.wrap_u32]; omega
theorem or_u32 (a b : Nat) (ha : a < 2 ^ 32) (hb : b < 2 ^ 32) : bits .or .u32 (a : Int) (b : Int) = ((a ||| b : Nat) : Int) := (bits_nat .u32 32 (by decide) wraps_u32 a b ha hb).2
theorem mask_u32 (a i : Nat) (ha : a < 2 ^ 32) (hi : i ≤ 32) : bits .and .u32 (a : Int) (2 ^ i - 1) = ((a % 2 ^ i : Nat) : Int) := by
  rw [bits_mask .u32 32 (by decide) wraps_u32 i hi a (Int.natCast_nonneg _) (by exact_mod_cast ha)]
  push_cast
  rfl
theorem getD_text (s : ByteArray) (k : Nat) (hk : k < s.size) : s.data.toList.getD k 0 = s[k] := by
  have hl : s.data.toList.length = s.size := rfl
  rw [List.getD_eq_getElem?_getD, List.getElem?_eq_getElem (by omega)]
  rfl
theorem row_step (x : Nat) (s : List UInt8) (k : Nat) (hk : k < 3) (hx : x = (s.getD k 0).toNat) : bits BinOp.or IntKind.u32 (rowN s k : Int) ((x : Int) % 4294967296 * 2 ^ (16 - 8 * k) % 4294967296) = (rowN s (k + 1) : Int) := by
  subst hx
  have h0 := (s.getD k 0).toNat_lt
  have hlo := row_lt s k (by omega)
  have hhi := row_lt s (k + 1) (by omega)
  have hp : 2 ^ (16 - 8 * k) ≤ 2 ^ 16 := Nat.pow_le_pow_right (by omega) (by omega)
  have hm : (s.getD k 0).toNat * 2 ^ (16 - 8 * k) < 4294967296 := Nat.lt_of_le_of_lt (Nat.mul_le_mul (Nat.le_of_lt h0) hp) (by decide)
  have e : (((s.getD k 0).toNat : Int) % 4294967296 * 2 ^ (16 - 8 * k) % 4294967296) = (((s.getD k 0).toNat * 2 ^ (16 - 8 * k) : Nat) : Int) := by
    have e1 : ((s.getD k 0).toNat : Int) % 4294967296 = (s.getD k 0).toNat := by omega
    rw [e1]
    have : ((s.getD k 0).toNat : Int) * 2 ^ (16 - 8 * k) = (((s.getD k 0).toNat * 2 ^ (16 - 8 * k) : Nat) : Int) := by push_cast; rfl
    rw [this]
    omega
  rw [e, or_u32 _ _ (by omega) (by omega), row_or s k hk]

/-- The letters by number, as the program holds them. -/
theorem alphabet_fin : ∀ v : Fin 64, (⟨#[65, 66, 67, 68, 69, 70, 71, 72, 73, 74, 75, 76, 77, 78, 79, 80, 81, 82, 83, 84, 85, 86, 87, 88, 89, 90, 97, 98, 99, 100, 101, 102, 103, 104, 105, 106, 107, 108, 109, 110, 111, 112, 113, 114, 115, 116, 117, 118, 119, 120, 121, 122, 48, 49, 50, 51, 52, 53, 54, 55, 56, 57, 43, 47]⟩ : ByteArray)[v.val]'(v.isLt) = letterB v.val := by decide +kernel
theorem alphabet_at (v : Nat) (h : v < 64) : (⟨#[65, 66, 67, 68, 69, 70, 71, 72, 73, 74, 75, 76, 77, 78, 79, 80, 81, 82, 83, 84, 85, 86, 87, 88, 89, 90, 97, 98, 99, 100, 101, 102, 103, 104, 105, 106, 107, 108, 109, 110, 111, 112, 113, 114, 115, 116, 117, 118, 119, 120, 121, 122, 48, 49, 50, 51, 52, 53, 54, 55, 56, 57, 43, 47]⟩ : ByteArray)[v]'(h) = letterB v := alphabet_fin ⟨v, h⟩

set_option maxRecDepth 100000 in
set_option maxHeartbeats 2000000 in
theorem wrow_any (B b : Nat) (l : List UInt8) (s : ByteArray) (w : World) (h : Lib.BuilderAt 36 5 B b (.pointer (some ⟨b, 0, none⟩)) (Lib.byteCells l) w) (hlen : l.length + 4 ≤ 1000000000) (hBw : B ≤ w.heap.size) (h1 : 1 ≤ s.size) (h3 : s.size ≤ 3) :
    Calls Tryd.prog 26 #[.pointer (some ⟨b, 0, none⟩), .string s] w fun e w' => e = .returned (.tuple #[]) ∧ Lib.BuilderAt 36 5 B b (.pointer (some ⟨b, 0, none⟩)) (Lib.byteCells (l ++ encB s.data.toList)) w' ∧ Below B w w' := by
  have hsl : s.data.toList.length = s.size := rfl
  have hrl := row_letters s.data.toList (by omega) (by omega)
  have Hrl := Lib.hid hrl
  have Hget := Lib.hid (getD_text s)
  clear hrl hsl
  go_enter Tryd.func26, Tryd.ntmps26
  go_wp2
  go_loop [4, 5, 9] (fun bv _ iv => ∃ k : Nat, k ≤ s.size ∧ iv = .int .i64 k ∧ bv = .int .u32 (rowN s.data.toList k)) (fun _ _ iv => s.size - (intOf iv).toNat)
  case atStart => exact ⟨0, by omega, rfl, rfl⟩
  case round =>
    obtain ⟨k, hk, rfl, rfl⟩ := hrel
    by_cases hlt : k < s.size
    · have hst := row_step s[k].toNat s.data.toList k (by omega) (by rw [Hget.out k hlt])
      have Hst := Lib.hid hst
      clear hst
      go_wp2
      exact ⟨⟨k + 1, by omega, by go_num, by rw [Hst.out]⟩, by simp [intOf]; omega⟩
    · obtain rfl : k = s.size := by omega
      have hlo := row_lt s.data.toList s.size h3
      have Hlo := Lib.hid hlo
      clear hlo Hget
      generalize hN : rowN s.data.toList s.size = N at Hlo
      have HN := Lib.hid hN
      clear hN
      have hb0 := Below.refl B w
      go_wp2
      go_loopw [6, 23] (fun _ iv wr => ∃ p : Nat, p ≤ 4 ∧ iv = .int .i64 p ∧ Lib.BuilderAt 36 5 B b (.pointer (some ⟨b, 0, none⟩)) (Lib.byteCells (l ++ (encB s.data.toList).take p)) wr ∧ Below B w wr) (fun _ iv _ => 4 - (intOf iv).toNat)
      case atStart => exact ⟨0, by omega, rfl, by simpa using h, hb0⟩
      case round =>
        obtain ⟨p, hp, rfl, hbd, hbr⟩ := hrel
        by_cases hp4 : p < 4
        · have hnx : (encB s.data.toList).take (p + 1) = (encB s.data.toList).take p ++ [rowL s.data.toList p] := by
            rw [Hrl.out]
            rcases (by omega : p = 0 ∨ p = 1 ∨ p = 2 ∨ p = 3) with rfl | rfl | rfl | rfl <;> rfl
          have Hnx := Lib.hid hnx
          clear hnx
          have hlp : (l ++ (encB s.data.toList).take p).length ≤ l.length + p := by simp; omega
          by_cases hps : s.size < p
          · have hr : rowL s.data.toList p = 61 := if_pos hps
            have hwr := bwrite_any B b (Lib.byteCells (l ++ (encB s.data.toList).take p)) ⟨#[61]⟩ wr (.inr hbd) (by rw [Lib.byteCells_length]; show _ + 1 ≤ _; omega) (by have := hbr.size; omega)
            rw [show Lib.byteCells (l ++ (encB s.data.toList).take p) ++ Lib.strCells ⟨#[61]⟩ = Lib.byteCells (l ++ (encB s.data.toList).take (p + 1)) by rw [Hnx.out, hr, ← List.append_assoc, Lib.byteCells_append (l ++ _)]; rfl] at hwr
            clear hr hlp
            go_wp2_with (go_at_call 16; refine hwr.mono ?_)
            rintro e w2 ⟨rfl, hb2, hw2⟩
            go_wp2
            exact ⟨⟨p + 1, by omega, by go_num, hb2, hbr.trans hw2⟩, by simp [intOf]; omega⟩
          · obtain ⟨v, hv64, hvN, hvb⟩ : ∃ v, v < 64 ∧ N / 2 ^ (18 - 6 * p) % 64 = v ∧ bits BinOp.and IntKind.u32 ((N : Int) / 2 ^ (18 - 6 * p)) 63 = (v : Int) := by
              refine ⟨_, Nat.mod_lt _ (by omega), rfl, ?_⟩
              have e : ((N : Int) / 2 ^ (18 - 6 * p)) = ((N / 2 ^ (18 - 6 * p) : Nat) : Int) := by push_cast; rfl
              rw [e]
              exact mask_u32 _ 6 (Nat.lt_of_le_of_lt (Nat.div_le_self _ _) (by have := Hlo.out; omega)) (by decide)
            have hr : rowL s.data.toList p = letterB v := by
              unfold rowL
              rw [if_neg (by exact hps)]
              show letterB (rowN s.data.toList s.size / 2 ^ (18 - 6 * p) % 64) = _
              rw [HN.out, hvN]
            have hwr := wbyte_any B b (l ++ (encB s.data.toList).take p) (letterB v) wr (.inr hbd) (by omega) (by have := hbr.size; omega)
            rw [List.append_assoc, ← hr, ← Hnx.out] at hwr
            have hwr' : ∀ c : UInt8, c = rowL s.data.toList p → Calls Tryd.prog 36 #[.pointer (some ⟨b, 0, none⟩), .int .u8 (c.toNat : Int)] wr fun e w' => e = .returned .nilIface ∧ (Lib.BuilderAt 36 5 B b (.pointer (some ⟨b, 0, none⟩)) (Lib.byteCells (l ++ (encB s.data.toList).take (p + 1))) w' ∧ Below B wr w') := fun c hc => by
              subst hc
              exact hwr
            clear hlp hvN hwr
            have Hr := Lib.hid hr
            clear hr
            go_wp2_with (go_at_call 36; refine (hwr' _ ((alphabet_at v hv64).trans Hr.out.symm)).mono ?_)
            rintro e w2 ⟨rfl, hb2, hw2⟩
            go_wp2
            exact ⟨⟨p + 1, by omega, by go_num, hb2, hbr.trans hw2⟩, by simp [intOf]; omega⟩
        · obtain rfl : p = 4 := by omega
          have hfin : (encB s.data.toList).take 4 = encB s.data.toList := by rw [Hrl.out]; rfl
          rw [hfin] at hbd
          clear hfin
          go_wp2
          go_end0
          exact ⟨rfl, hbd, hbr⟩

/-- Whole rows of three go on with what is left. -/
theorem enc_rows (s : List UInt8) (k : Nat) (h : 3 * k < s.length) : encB (s.take (3 * (k + 1))) = encB (s.take (3 * k)) ++ encB ((s.drop (3 * k)).take 3) := by
  have e : s.take (3 * (k + 1)) = s.take (3 * k) ++ (s.drop (3 * k)).take 3 := by
    rw [show 3 * (k + 1) = 3 * k + 3 by omega, List.take_add]
  rw [e, enc_append _ _ (by rw [List.length_take]; omega)]

/-- Room for a new builder. -/
theorem grow_new (n : Int) (h0 : 0 ≤ n) (h1 : n ≤ 281474976710656) (w : World) :
    Calls Tryd.prog 25 #[.pointer (some ⟨w.heap.size, 0, none⟩), .int .i64 n] (w.alloc (.cells #[.pointer none, .slice none 0 0] 36)) fun e w' => e = .returned (.tuple #[]) ∧ (Lib.BuilderAt 36 5 w.heap.size w.heap.size (.pointer (some ⟨w.heap.size, 0, none⟩)) [] w' ∧ Below w.heap.size w w') := by
  obtain ⟨m, rfl⟩ := Int.eq_ofNat_of_zero_le h0
  refine (Tryd.Builder_Grow_fresh w.heap.size w.heap.size m _ (Nat.le_refl _) (heap_alloc_new w _) (by simp) (by omega)).mono ?_
  rintro e w' ⟨he, hb, hw⟩
  exact ⟨he, hb, ((Below.refl _ w).alloc (Nat.le_refl _) _).trans hw⟩
/-- A piece of a text. -/
theorem piece_data (s : ByteArray) (i j : Nat) : (s.extract i j).data.toList = (s.data.toList.drop i).take (j - i) := by
  rw [Lib.extract_data]

set_option maxRecDepth 100000 in
set_option maxHeartbeats 2000000 in
theorem enc_any (s : ByteArray) (w : World) (hs : s.size ≤ 100000000) :
    Calls Tryd.prog 17 #[.string s] w fun e w' => e = .returned (.string ⟨(encB s.data.toList).toArray⟩) ∧ Below w.heap.size w w' := by
  have hgrow := grow_new (4 * (((s.size : Int) + 2) / 3)) (by omega) (by omega) w
  have hl : s.data.toList.length = s.size := rfl
  have Hl := Lib.hid hl
  have hR : ((s.size : Int) + 2) / 3 = (((s.size + 2) / 3 : Nat) : Int) := by omega
  rw [hR] at hgrow
  have Hrows : Hid (∀ k, 3 * k < s.size → encB (s.data.toList.take (3 * (k + 1))) = encB (s.data.toList.take (3 * k)) ++ encB ((s.data.toList.drop (3 * k)).take 3)) := Lib.hid fun k hk => enc_rows _ k (by rw [hl]; exact hk)
  obtain ⟨R, hRd⟩ : ∃ R, (s.size + 2) / 3 = R := ⟨_, rfl⟩
  rw [hRd] at hR hgrow
  clear hl
  go_enter Tryd.func17, Tryd.ntmps17
  go_wp2_with (go_at_call 25; refine hgrow.mono ?_)
  rintro e w1 ⟨rfl, hb1, hw1⟩
  go_wp2
  go_loopw [5, 14] (fun _ iv wr => ∃ k : Nat, k ≤ R ∧ iv = .int .i64 k ∧ Lib.BuilderAt 36 5 w.heap.size w.heap.size (.pointer (some ⟨w.heap.size, 0, none⟩)) (Lib.byteCells (encB (s.data.toList.take (3 * k)))) wr ∧ Below w.heap.size w wr) (fun _ iv _ => R - (intOf iv).toNat)
  case atStart => exact ⟨0, by omega, rfl, by rw [Nat.mul_zero, List.take_zero]; exact hb1, hw1⟩
  case round =>
    obtain ⟨k, hk, rfl, hbd, hbr⟩ := hrel
    by_cases hlt : k < R
    · have hk3 : 3 * k < s.size := by omega
      have hd : (s.extract (3 * k) (min (3 * (k : Int) + 3) s.size).toNat).data.toList = (s.data.toList.drop (3 * k)).take 3 := by
        rw [piece_data]
        have e : (min (3 * (k : Int) + 3) s.size).toNat - 3 * k = min 3 (s.size - 3 * k) := by omega
        rw [e]
        have := Hl.out
        rcases (by omega : 3 ≤ s.size - 3 * k ∨ s.size - 3 * k < 3) with h | h
        · rw [show min 3 (s.size - 3 * k) = 3 by omega]
        · rw [List.take_of_length_le (by rw [List.length_drop]; omega), List.take_of_length_le (by rw [List.length_drop]; omega)]
      have hz : (s.extract (3 * k) (min (3 * (k : Int) + 3) s.size).toNat).size = min 3 (s.size - 3 * k) := by
        have := congrArg List.length hd
        rw [List.length_take, List.length_drop, Hl.out] at this
        exact this
      have hle := enc_len (s.data.toList.take (3 * k))
      rw [List.length_take, Hl.out] at hle
      have hbs := hbr.size
      have hcall := wrow_any w.heap.size w.heap.size (encB (s.data.toList.take (3 * k))) (s.extract (3 * k) (min (3 * (k : Int) + 3) s.size).toNat) wr hbd (by omega) hbs (by omega) (by omega)
      rw [hd, ← Hrows.out k hk3] at hcall
      clear hd hz hle
      go_wp2_with (go_at_call 26; refine hcall.mono ?_)
      rintro e w2 ⟨rfl, hb2, hw2⟩
      go_wp2
      exact ⟨⟨k + 1, by omega, by go_num, hb2, hbr.trans hw2⟩, by simp [intOf]; omega⟩
    · obtain rfl : k = R := by omega
      have hall : s.data.toList.take (3 * k) = s.data.toList := List.take_of_length_le (by rw [Hl.out]; omega)
      rw [hall] at hbd
      have hstr := Tryd.Builder_String_any w.heap.size w.heap.size (encB s.data.toList) wr (.inr hbd) hbr.size
      clear hall
      go_wp2_with (go_at_call 18; refine hstr.mono ?_)
      rintro e w2 ⟨rfl, hw2⟩
      go_wp2
      go_ret
      exact ⟨rfl, hbr.trans hw2⟩
end Go.Proofs.YtjkcjbbkplonkaaDoor
