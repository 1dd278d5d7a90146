/-
  The document's answer of layer 10: what printing comes to.
-/
import Derived.Test.YtneihcdeflfahaaDoorR10D
import Derived.Test.YtneihcdeflfahaaDoorHdF
namespace Go.Proofs.YtneihcdeflfahaaDoor
open Go.RowKit

set_option maxRecDepth 100000 in
set_option maxHeartbeats 8000000 in
theorem r10print_any (B : Nat) (v : Value) (l : List FieldH) (w : World) (h : FieldsAt w B v l) (hB : B ≤ w.heap.size) (hsm : SmallF 100000 l) :
    Calls Tryd.prog 12 #[v] w fun e w' => e = .returned (printV10 l) ∧ Below w.heap.size w w' := by
  obtain ⟨ao, cap, rfl, hc1, hc2, hat⟩ := h
  have Hat := Lib.hid hat
  have Hsm := Lib.hid hsm
  obtain ⟨n, hnl⟩ : ∃ n, l.length = n := ⟨_, rfl⟩
  have Hn := Lib.hid hnl
  unfold maxLen at hc2
  rw [hnl] at hc1 ⊢
  clear hat hsm hnl
  go_enter Tryd.func12, Tryd.ntmps12
  go_wp2
  go_loopw [4] (fun iv wr => ∃ i : Nat, i ≤ n ∧ iv = .int .i64 i ∧ Hid (∀ j (hj : j < l.length), j < i → rightB l[j] = true) ∧ Below w.heap.size w wr) (fun iv _ => n - (intOf iv).toNat)
  case atStart => exact ⟨0, by omega, rfl, Lib.hid (fun j _ h => by omega), Below.refl _ _⟩
  case round =>
    obtain ⟨i, hi, rfl, hg, hbr⟩ := hrel
    by_cases hlt : i < n
    · have hil : i < l.length := by rw [Hn.out]; exact hlt
      obtain ⟨g, off, rfl, hgB, z0, z1⟩ := Hat.out i hil
      obtain ⟨s0, s1⟩ := Hsm.out _ (List.getElem_mem hil)
      have hbad : Hid (rightB l[i] = false → printV10 l = .tuple #[.string ⟨#[]⟩, .int .i64 2]) := Lib.hid fun h => printV_bad (List.getElem_mem hil) h
      have hyes : Hid (rightB l[i] = true → ∀ j (hj : j < l.length), j < i + 1 → rightB l[j] = true) := Lib.hid fun h j hj h3 => by
        rcases Nat.lt_or_ge j i with h4 | h4
        · exact hg.out j hj h4
        · obtain rfl : j = i := by omega
          exact h
      have hr := fun W => r10right_any l[i] W (by omega)
      have hwr : IntKind.i64.wrap ((i : Int) + 1) = (i : Int) + 1 := by rw [IntWalk.i64_in _ (by omega)]
      obtain ⟨f, hf⟩ : ∃ f, l[i] = f := ⟨_, rfl⟩
      rw [hf] at z0 z1 s0 s1 hbad hyes
      simp only [hf] at hr
      unfold fieldV at hr
      obtain ⟨X, hX⟩ : ∃ X, textQ f.1 = X := ⟨_, rfl⟩
      obtain ⟨Y, hY⟩ : ∃ Y, textQ f.2 = Y := ⟨_, rfl⟩
      rw [hX] at z0
      rw [hY] at z1
      simp only [hX, hY] at hr
      have y0 := (hbr.cell (p := ⟨g, off + i * 2, none⟩) (by show g < w.heap.size; omega)).trans z0
      have y1 := (hbr.cell (p := ⟨g, off + i * 2 + 1, none⟩) (by show g < w.heap.size; omega)).trans z1
      have hgr : g < wr.heap.size := by have := hbr.size; omega
      have hbz := hbr.size
      clear z0 z1 s0 s1 hX hY hg hil hf
      cases hq : rightB f with
      | false =>
        rw [hq] at hr
        have Hr := Lib.hid (hbad.out hq)
        clear hbad hyes hq
        go_wp2_with fail
        refine (hr _).mono ?_
        rintro e w1 ⟨rfl, hw1⟩
        have hb1 := hbr.trans (hw1.mono hbz)
        go_wp2
        go_ret2
        exact ⟨by rw [Hr.out]; rfl, hb1⟩
      | true =>
        rw [hq] at hr
        have Hr := Lib.hid (hyes.out hq)
        clear hbad hyes hq
        go_wp2_with fail
        refine (hr _).mono ?_
        rintro e w1 ⟨rfl, hw1⟩
        have hb1 := hbr.trans (hw1.mono hbz)
        go_wp2
        go_roundw
        case rel => exact ⟨i + 1, by omega, by go_num, Hr, hb1⟩
        case measure => simp [intOf]; omega
    · obtain rfl : i = n := by omega
      have hall : ∀ f ∈ l, rightB f = true := fun f hf => by
        obtain ⟨j, hj, rfl⟩ := List.mem_iff_getElem.1 hf
        exact hg.out j hj (by rw [← Hn.out]; exact hj)
      have Hall := Lib.hid hall
      clear hall hg
      by_cases h64 : 64 < i
      · have Hr := Lib.hid (printV_many Hall.out (by rw [Hn.out]; exact h64))
        go_wp2
        go_ret2
        exact ⟨by rw [Hr.out]; rfl, hbr⟩
      · have hz := hbr.size
        obtain ⟨w1, hw1⟩ : ∃ w1, w1 = wr := ⟨_, rfl⟩
        subst hw1
        go_wp2
        go_loopw [5, 6, 7, 8] (fun sv iv _ _ wx => ∃ (k : Nat) (S : ByteArray), k ≤ i ∧ sv = .string S ∧ iv = .int .i64 k ∧ S.size ≤ 310000 * k ∧ Hid (longH ((l.take k).flatMap linesH) = false ∧ S.data.toList = endH ((l.take k).flatMap linesH)) ∧ Below w.heap.size w wx) (fun _ iv _ _ _ => i - (intOf iv).toNat)
        case atStart => exact ⟨0, ⟨#[]⟩, by omega, rfl, rfl, Nat.zero_le _, Lib.hid ⟨rfl, rfl⟩, hbr⟩
        case round =>
          obtain ⟨k, S, hk, rfl, rfl, hSs, hst, hbw⟩ := hrel
          by_cases hlk : k < i
          · have hil : k < l.length := by rw [Hn.out]; exact hlk
            obtain ⟨g, off, rfl, hgB, z0, z1⟩ := Hat.out k hil
            obtain ⟨s0, s1⟩ := Hsm.out _ (List.getElem_mem hil)
            have hr1 := (right_iff _).1 (Hall.out _ (List.getElem_mem hil))
            have hfo := fun W => r10fold_any l[k] W hr1.n64 (by omega)
            have hfl := field_len l[k] (by have := hr1.n64; omega)
            have hn64 := hr1.n64
            have hsn : (l.take (k + 1)).flatMap linesH = (l.take k).flatMap linesH ++ linesH l[k] := by
              rw [List.take_succ_eq_append_getElem hil, List.flatMap_append]
              simp
            have hlong : Hid (longH (linesH l[k]) = true → printV10 l = .tuple #[.string ⟨#[]⟩, .int .i64 3]) := Lib.hid fun h => by
              refine printV_long Hall.out (by rw [Hn.out]; omega) ?_
              have e : l = l.take (k + 1) ++ l.drop (k + 1) := (List.take_append_drop _ _).symm
              rw [e, List.flatMap_append, long_append, hsn, long_append, h]
              simp
            have hgood : Hid (longH (linesH l[k]) = false → longH ((l.take (k + 1)).flatMap linesH) = false ∧ (S ++ textQ (endH (linesH l[k]))).data.toList = endH ((l.take (k + 1)).flatMap linesH)) := Lib.hid fun h => by
              rw [hsn, long_append, hst.out.1, h, end_append, ByteArray.data_append, Array.toList_append, hst.out.2]
              exact ⟨rfl, rfl⟩
            have hwr : IntKind.i64.wrap ((k : Int) + 1) = (k : Int) + 1 := by rw [IntWalk.i64_in _ (by omega)]
            obtain ⟨f, hf⟩ : ∃ f, l[k] = f := ⟨_, rfl⟩
            rw [hf] at z0 z1 s0 s1 hlong hgood hfl hn64
            simp only [hf] at hfo
            unfold fieldV at hfo
            obtain ⟨X, hX⟩ : ∃ X, textQ f.1 = X := ⟨_, rfl⟩
            obtain ⟨Y, hY⟩ : ∃ Y, textQ f.2 = Y := ⟨_, rfl⟩
            obtain ⟨T, hT⟩ : ∃ T, textQ (endH (linesH f)) = T := ⟨_, rfl⟩
            have hTs : T.size ≤ 310000 := by
              rw [← hT]
              show (endH (linesH f)).length ≤ _
              omega
            rw [hX] at z0
            rw [hY] at z1
            rw [hT] at hgood
            simp only [hX, hY, hT] at hfo
            obtain ⟨b, hbl⟩ : ∃ b, longH (linesH f) = b := ⟨_, rfl⟩
            rw [hbl] at hlong hgood
            simp only [hbl] at hfo
            have y0 := (hbw.cell (p := ⟨g, off + k * 2, none⟩) (by show g < w.heap.size; omega)).trans z0
            have y1 := (hbw.cell (p := ⟨g, off + k * 2 + 1, none⟩) (by show g < w.heap.size; omega)).trans z1
            have hgr : g < wr.heap.size := by have := hbw.size; omega
            have hbz := hbw.size
            have hcat : ¬ 9223372036854775807 < S.size + T.size := by omega
            have hSs2 : (S ++ T).size ≤ 310000 * (k + 1) := by rw [ByteArray.size_append]; omega
            clear z0 z1 s0 s1 hX hY hil hf hT hsn hr1 hfl hn64 hbl hst
            have hfo2 := hfo wr
            clear hfo
            go_wp2_with fail
            refine hfo2.mono ?_
            rintro e w2 ⟨M, rfl, hM, hMs, hw2⟩
            have hb2 := hbw.trans (hw2.mono hbz)
            clear hfo2 hw2 hbw y0 y1 hgr hbz
            cases b with
            | true =>
              have Hr := Lib.hid (hlong.out (by first | rfl | trivial))
              have hM1 : (998 : Int) < (M : Int) := by have := of_decide_eq_true hM; omega
              clear hlong hgood hM
              go_wp2
              go_ret2
              exact ⟨by rw [Hr.out]; rfl, hb2⟩
            | false =>
              have Hr := Lib.hid (hgood.out (by first | rfl | trivial))
              have hM1 : ¬ ((998 : Int) < (M : Int)) := by have := of_decide_eq_false hM; omega
              clear hlong hgood hM
              go_wp2
              go_roundw
              case rel => exact ⟨k + 1, S ++ T, by omega, rfl, by go_num, hSs2, Hr, hb2⟩
              case measure => simp [intOf]; omega
          · obtain rfl : k = i := by omega
            have Hr : Hid (printV10 l = .tuple #[.string (S ++ ⟨#[13, 10]⟩), .int .i64 0]) := Lib.hid (by
              have h1 := hst.out
              rw [show l.take k = l from List.take_of_length_le (by rw [Hn.out]; exact Nat.le_refl _)] at h1
              rw [printV_good Hall.out (by rw [Hn.out]; omega) h1.1]
              unfold headerH
              rw [← h1.2]
              rfl)
            have hcat : ¬ 9223372036854775807 < S.size + 2 := by omega
            have l2 : (⟨#[13, 10]⟩ : ByteArray).size = 2 := rfl
            clear hst
            go_wp2
            go_ret2
            exact ⟨by rw [Hr.out]; rfl, hbw⟩
end Go.Proofs.YtneihcdeflfahaaDoor
