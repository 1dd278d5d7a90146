/-
  The document's answer of layer 3, written in Go: folding, and back, told by the plain functions.
-/
import Derived.Test.YtidlpdiephlkhaaGreatDoorT21
import Derived.Test.YtidlpdiephlkhaaGreatDoorT22
namespace Go.Proofs.YtidlpdiephlkhaaGreatDoor
open Go.RowKit

theorem fold_take (l : List UInt8) (m : Nat) (h : 76 * m < l.length) : foldB (l.take (76 * (m + 1))) = foldB (l.take (76 * m)) ++ ((l.drop (76 * m)).take 76 ++ [13, 10]) := by
  induction m generalizing l with
  | zero =>
    have hne : l.take (76 * (0 + 1)) ≠ [] := fun e => by
      have := congrArg List.length e
      rw [List.length_take, List.length_nil] at this
      omega
    rw [fold_cons hne]
    simp only [Nat.mul_zero, Nat.zero_add, Nat.mul_one, List.take_zero, List.drop_zero, fold_nil, List.nil_append]
    rw [List.take_take, Nat.min_self, List.drop_eq_nil_of_le (by rw [List.length_take]; omega), fold_nil]
  | succ m ih =>
    have hne : l.take (76 * (m + 1 + 1)) ≠ [] := fun e => by
      have := congrArg List.length e
      rw [List.length_take, List.length_nil] at this
      omega
    have hne2 : l.take (76 * (m + 1)) ≠ [] := fun e => by
      have := congrArg List.length e
      rw [List.length_take, List.length_nil] at this
      omega
    have e := ih (l.drop 76) (by rw [List.length_drop]; omega)
    rw [fold_cons hne, fold_cons hne2, List.take_take, List.take_take, show min 76 (76 * (m + 1 + 1)) = 76 by omega, show min 76 (76 * (m + 1)) = 76 by omega, List.drop_take, List.drop_take,
      show 76 * (m + 1 + 1) - 76 = 76 * (m + 1) by omega, show 76 * (m + 1) - 76 = 76 * m by omega, e, List.drop_drop, show 76 + 76 * m = 76 * (m + 1) by omega]
    simp

theorem text_app (a : List UInt8) (b : ByteArray) : (⟨a.toArray⟩ : ByteArray) ++ b = ⟨(a ++ b.data.toList).toArray⟩ := by
  apply ByteArray.ext
  simp

set_option maxRecDepth 100000 in
set_option maxHeartbeats 2000000 in
theorem r3fold_any (s : ByteArray) (w : World) (hs : s.size < 1000000) :
    Calls Tryz.prog 96 #[.string s] w fun e w' => e = .returned (.string ⟨(foldB (encB s.data.toList)).toArray⟩) ∧ Below w.heap.size w w' := by
  have hcall := r3enc_any s w (by omega)
  have hel := enc_len s.data.toList
  rw [show s.data.toList.length = s.size from rfl] at hel
  obtain ⟨t, ht⟩ : ∃ t : ByteArray, t = ⟨(encB s.data.toList).toArray⟩ := ⟨_, rfl⟩
  have htl : t.data.toList = encB s.data.toList := by rw [ht]
  have hts : t.size ≤ 2000000 := by
    have : t.size = t.data.toList.length := rfl
    rw [this, htl, hel]; omega
  have hfl := fold_size t.data.toList
  rw [show t.data.toList.length = t.size from rfl] at hfl
  rw [← ht] at hcall
  rw [← htl]
  have Hl : Hid (t.data.toList.length = t.size) := Lib.hid rfl
  have Hft : Hid (∀ m, 76 * m < t.size → foldB (t.data.toList.take (76 * (m + 1))) = foldB (t.data.toList.take (76 * m)) ++ ((t.data.toList.drop (76 * m)).take 76 ++ [13, 10])) := Lib.hid fun m hm => fold_take _ m hm
  clear ht hel htl hfl
  go_enter Tryz.func96, Tryz.ntmps96
  go_wp2_with (go_at_call 127; refine hcall.mono ?_)
  rintro e w1 ⟨rfl, hw1⟩
  clear hcall
  go_wp2
  go_loopw [4, 5, 6] (fun o iv _ wr => ∃ m : Nat, 76 * m < t.size + 76 ∧ iv = .int .i64 ((76 * m : Nat) : Int) ∧ o = .string ⟨(foldB (t.data.toList.take (76 * m))).toArray⟩ ∧ Below w.heap.size w wr) (fun _ iv _ _ => t.size + 76 - (intOf iv).toNat)
  case atStart => exact ⟨0, by omega, rfl, by rw [Nat.mul_zero, List.take_zero, fold_nil], hw1⟩
  case round =>
    obtain ⟨m, hm, rfl, rfl, hbr⟩ := hrel
    obtain ⟨q, hq⟩ : ∃ q, 76 * m = q := ⟨_, rfl⟩
    have Hq := Lib.hid hq
    by_cases hlt : q < t.size
    · have hst := Hft.out m (by omega)
      have hm1 : 76 * (m + 1) = q + 76 := by omega
      rw [hm1, hq] at hst
      rw [hq]
      have Hst := Lib.hid hst
      have Hm1 := Lib.hid hm1
      clear hst hm1 hq
      obtain ⟨o, ho⟩ : ∃ o : ByteArray, o = ⟨(foldB (t.data.toList.take q)).toArray⟩ := ⟨_, rfl⟩
      rw [← ho]
      have hos : o.size ≤ 3000000 := by
        have h1 : o.size = (foldB (t.data.toList.take q)).length := by rw [ho]; rfl
        have h2 := fold_size (t.data.toList.take q)
        rw [List.length_take, Hl.out] at h2
        omega
      by_cases hlong : t.size < q + 76
      · have hx : (t.data.toList.drop q).take 76 = (t.extract q t.size).data.toList := by
          rw [Lib.extract_data, List.take_of_length_le (by rw [List.length_drop, Hl.out]; omega), List.take_of_length_le (by rw [List.length_drop, Hl.out]; omega)]
        have Hx := Lib.hid hx
        have Ho := Lib.hid ho
        clear hx ho
        go_wp2
        exact ⟨⟨m + 1, by have := Hm1.out; omega, by rw [Hm1.out]; push_cast; rfl, by rw [Hm1.out, Hst.out, Hx.out, Ho.out, text_app, text_app, List.append_assoc], hbr⟩, by simp [intOf]; omega⟩
      · have hx : (t.data.toList.drop q).take 76 = (t.extract q (q + 76)).data.toList := by
          rw [Lib.extract_data]
          congr 1
          omega
        have Hx := Lib.hid hx
        have Ho := Lib.hid ho
        clear hx ho
        go_wp2
        exact ⟨⟨m + 1, by have := Hm1.out; omega, by rw [Hm1.out]; push_cast; rfl, by rw [Hm1.out, Hst.out, Hx.out, Ho.out, text_app, text_app, List.append_assoc], hbr⟩, by simp [intOf]; omega⟩
    · have hall : t.data.toList.take (76 * m) = t.data.toList := List.take_of_length_le (by rw [Hl.out]; omega)
      rw [hall]
      clear hall
      have hlt' : ¬ (((76 * m : Nat) : Int) < t.size) := by omega
      go_wp2
      go_ret
      exact ⟨rfl, hbr⟩

set_option maxRecDepth 100000 in
set_option maxHeartbeats 2000000 in
theorem r3unf_any (s : ByteArray) (w : World) (hs : s.size < 100000) :
    Calls Tryz.prog 63 #[.string s] w fun e w' => e = .returned (decV (unfoldB s.data.toList)) ∧ Below w.heap.size w w' := by
  obtain ⟨i0, hi, hz0, hz1, hz2⟩ := info_parts infoB3
  have hown0 : w.ownsRow w.heap.size 5 1 (.slice none 0 0) ([] : List UInt8).length (Lib.byteCells []) := World.ownsRow_nil _ _ _ _
  have Hl : Hid (s.data.toList.length = s.size) := Lib.hid rfl
  go_enter Tryz.func63, Tryz.ntmps63
  go_wp2
  go_loopw [4, 5] (fun o iv wr => ∃ (i : Nat) (out : List UInt8) (vo : Value), i ≤ s.size ∧ iv = .int .i64 i ∧ o = vo ∧ out.length ≤ i ∧ wr.ownsRow w.heap.size 5 1 vo out.length (Lib.byteCells out) ∧ Below w.heap.size w wr ∧ plainB s.data.toList = out ++ plainB (s.data.toList.drop i)) (fun _ iv _ => s.size - (intOf iv).toNat)
  case atStart => exact ⟨0, [], _, Nat.zero_le _, rfl, rfl, Nat.le_refl _, hown0, Below.refl _ _, rfl⟩
  case round =>
    obtain ⟨i, out, vo, hi1, rfl, hvo, hol, hown, hbr, hst⟩ := hrel
    subst hvo
    have hbz := hbr.size
    by_cases hlt : i < s.size
    · have hdr : s.data.toList.drop i = s[i] :: s.data.toList.drop (i + 1) := by
        rw [List.drop_eq_getElem_cons (by rw [Hl.out]; exact hlt)]
        rfl
      obtain ⟨c, hc⟩ : ∃ c, s[i] = c := ⟨_, rfl⟩
      rw [hc] at hdr
      have hcl : c.toNat < 256 := c.toNat_lt
      by_cases hp : c ≠ 13 ∧ c ≠ 10
      · have hn : plainB s.data.toList = out ++ [c] ++ plainB (s.data.toList.drop (i + 1)) := by
          rw [hst, hdr]
          unfold plainB
          rw [List.filter_cons_of_pos (by simpa using hp), List.append_assoc]
          rfl
        have h13 : ((c.toNat : Int) != 13) = true := by
          rw [bne_iff_ne]
          intro e
          exact hp.1 (UInt8.toNat_inj.1 (by have : (13 : UInt8).toNat = 13 := rfl; omega))
        have h10 : ((c.toNat : Int) != 10) = true := by
          rw [bne_iff_ne]
          intro e
          exact hp.2 (UInt8.toNat_inj.1 (by have : (10 : UInt8).toNat = 10 := rfl; omega))
        have Hn := Lib.hid hn
        have hown2 := hown.alloc (.cells #[.int .u8 (c.toNat : Int)] 5)
        clear hn hst hdr hp
        go_wp2_with (at_builtin; refine wpList_append_own _ rfl _ _ 67 rfl w.heap.size 5 i0 (.int .u8 0) 1 1 Tryz.underlying67 hi hz0 hz1 hz2 rfl (by decide) _ out.length _ rfl hown2 ⟨wr.heap.size, 0, none⟩ 1 1 [.int .u8 (c.toNat : Int)] rfl rfl ?n1 ?n2 ?n3 ?n4 ?n5 ?_)
        case n1 =>
          intro j u hj
          rw [Addr.add_lit]
          have hj0 : j = 0 := by
            rcases Nat.eq_zero_or_pos j with h | h
            · exact h
            · rw [List.getElem?_eq_none (by simp; omega)] at hj
              cases hj
          subst hj0
          simp at hj
          subst hj
          go_simp
        case n2 =>
          intro u hu
          simp at hu
          subst hu
          rfl
        case n3 => unfold maxLen; omega
        case n4 => omega
        case n5 => simp; omega
        intro v' w3 hown3 hgrow3 _
        have hb3 : Below w.heap.size w w3 := (hbr.alloc hbz _).grown hgrow3 (by simp; omega) fun k hk => (hown2.lt k hk).1
        go_wp2
        go_roundw
        case rel => exact ⟨i + 1, out ++ [c], _, by omega, by go_num, rfl, by simp; omega, by rw [Lib.byteCells_append, List.length_append]; exact hown3, hb3, Hn.out⟩
        case measure => simp [intOf]; omega
      · have hn : plainB s.data.toList = out ++ plainB (s.data.toList.drop (i + 1)) := by
          rw [hst, hdr]
          unfold plainB
          rw [List.filter_cons_of_neg (by simpa using hp)]
        have Hn := Lib.hid hn
        clear hn hst hdr
        by_cases h1 : c = 13
        · have h13 : ((c.toNat : Int) != 13) = false := by rw [h1]; rfl
          clear hp
          go_wp2
          go_roundw
          case rel => exact ⟨i + 1, out, _, by omega, by go_num, rfl, by omega, hown, hbr, Hn.out⟩
          case measure => simp [intOf]; omega
        · have h13 : ((c.toNat : Int) != 13) = true := by
            rw [bne_iff_ne]
            intro e
            exact h1 (UInt8.toNat_inj.1 (by have : (13 : UInt8).toNat = 13 := rfl; omega))
          have h10 : ((c.toNat : Int) != 10) = false := by
            have : c = 10 := Classical.byContradiction fun h => hp ⟨h1, h⟩
            rw [this]
            rfl
          clear hp h1
          go_wp2
          go_roundw
          case rel => exact ⟨i + 1, out, _, by omega, by go_num, rfl, by omega, hown, hbr, Hn.out⟩
          case measure => simp [intOf]; omega
    · obtain rfl : i = s.size := by omega
      have hdr : s.data.toList.drop s.size = [] := List.drop_eq_nil_of_le (by rw [Hl.out]; exact Nat.le_refl _)
      have hpl : plainB s.data.toList = out := by rw [hst, hdr]; simp [plainB]
      have hcv := conv_own hown
      have hcall := r3dec_any ⟨out.toArray⟩ wr (by have : (⟨out.toArray⟩ : ByteArray).size = out.length := rfl; omega)
      rw [show (⟨out.toArray⟩ : ByteArray).data.toList = out from rfl] at hcall
      have Hu : Hid (unfoldB s.data.toList = (match decB out with
          | some l => if foldB (encB l) = s.data.toList then some l else none
          | none => none)) := Lib.hid (by unfold unfoldB; rw [hpl]; rfl)
      have Hst := Lib.hid hst
      clear hst hdr hpl
      cases hd : decB out with
      | none =>
        rw [hd] at hcall
        have Hd := Lib.hid hd
        clear hd
        go_wp2_with fail
        refine hcall.mono ?_
        rintro e w' ⟨rfl, hw'⟩
        have hb3 := hbr.trans (hw'.mono hbz)
        clear hcall
        unfold decV
        go_wp2
        go_ret2
        exact ⟨by rw [Hu.out, Hd.out]; rfl, hb3⟩
      | some l =>
        rw [hd] at hcall
        have hll : l.length ≤ s.size := by
          have h1 := enc_dec out l hd
          have h2 := enc_len l
          rw [h1] at h2
          omega
        have Hd := Lib.hid hd
        clear hd
        obtain ⟨x, hx⟩ : ∃ x : ByteArray, x = ⟨l.toArray⟩ := ⟨_, rfl⟩
        have hxs : x.size = l.length := by rw [hx]; rfl
        unfold decV at hcall
        simp only at hcall
        rw [← hx] at hcall
        go_wp2_with fail
        refine hcall.mono ?_
        rintro e w' ⟨rfl, hw'⟩
        have hb3 := hbr.trans (hw'.mono hbz)
        have hfc := r3fold_any x w' (by omega)
        rw [show x.data.toList = l by rw [hx]] at hfc
        obtain ⟨y, hy⟩ : ∃ y : ByteArray, y = ⟨(foldB (encB l)).toArray⟩ := ⟨_, rfl⟩
        rw [← hy] at hfc
        have hyl : y.data.toList = foldB (encB l) := by rw [hy]
        have Hx := Lib.hid hx
        clear hcall hx hy
        by_cases hes : foldB (encB l) = s.data.toList
        · have hys : y = s := ByteArray.ext (Array.ext' (hyl.trans hes))
          subst hys
          have Hes := Lib.hid hes
          clear hes hyl
          go_wp2_with fail
          refine hfc.mono ?_
          rintro e w4 ⟨rfl, hw4⟩
          go_wp2
          go_ret2
          exact ⟨by rw [Hu.out, Hd.out]; simp only; rw [if_pos Hes.out]; exact congrArg (fun z => Ending.returned (.tuple #[.string z, .int .i64 0])) Hx.out, hb3.trans (hw4.mono hb3.size)⟩
        · have hyb : (y.toList == s.toList) = false := bytes_ne3 fun e => hes (by rw [← hyl, e])
          have Hes := Lib.hid hes
          clear hes hyl
          go_wp2_with fail
          refine hfc.mono ?_
          rintro e w4 ⟨rfl, hw4⟩
          go_wp2
          go_ret2
          exact ⟨by rw [Hu.out, Hd.out]; simp only; rw [if_neg Hes.out]; rfl, hb3.trans (hw4.mono hb3.size)⟩
end Go.Proofs.YtidlpdiephlkhaaGreatDoor
