/-
  Texts of this proof, put together: MmB.
-/
import Derived.Test.YtjikghndoklajaaGreatDoorZ30
import Derived.Test.YtjikghndoklajaaGreatDoorZ16
namespace Go.Proofs.YtjikghndoklajaaGreatDoor
open Go.RowKit

theorem add_text (a b : ByteArray) : (a ++ b).data.toList = a.data.toList ++ b.data.toList := by
  rw [ByteArray.data_append, Array.toList_append]
set_option maxRecDepth 100000 in
set_option maxHeartbeats 2000000 in
theorem mhasline_any (t mk : ByteArray) (m : Int) (w : World) (hs : t.size ≤ 1000000) (hk : mk.size ≤ 1000000) (hm : w.cell? ⟨0, 0, none⟩ = some (.int .i64 m)) :
    Calls Tryz.prog 71 #[.string t, .string mk] w fun e w' => e = .returned (.bool (hasLineM mk.data.toList t.data.toList)) ∧ w' = w := by
  have h1 := Tryz.strings_HasPrefix t mk w
  have h2 := Tryz.strings_Contains t (⟨#[13, 10]⟩ ++ mk) m w (by omega) hm
  rw [add_text, show (⟨#[13, 10]⟩ : ByteArray).data.toList = [13, 10] from rfl] at h2
  have h2 : Calls Tryz.prog 91 #[.string t, .string (⟨#[13, 10]⟩ ++ mk)] w fun e w' => e = .returned (.bool (Lib.contains t.data.toList (13 :: 10 :: mk.data.toList))) ∧ w' = w := h2
  unfold hasLineM
  cases hp : Lib.hasPrefix t.data.toList mk.data.toList with
  | true =>
    rw [hp] at h1
    clear h2 hp
    go_enter Tryz.func71, Tryz.ntmps71
    go_wp2_with (go_at_call 108; refine h1.mono ?_; rintro e w1 ⟨rfl, h9⟩; obtain rfl := h9.symm)
    go_ret
    exact ⟨rfl, rfl⟩
  | false =>
    rw [hp] at h1
    obtain ⟨b, hb⟩ : ∃ b, Lib.contains t.data.toList (13 :: 10 :: mk.data.toList) = b := ⟨_, rfl⟩
    rw [hb] at h2 ⊢
    clear hp hb
    go_enter Tryz.func71, Tryz.ntmps71
    go_wp2_with (first | (go_at_call 108; refine h1.mono ?_; rintro e w1 ⟨rfl, h9⟩; obtain rfl := h9.symm) | (go_at_call 91; refine h2.mono ?_; rintro e w1 ⟨rfl, h9⟩; obtain rfl := h9.symm))
    go_ret
    exact ⟨rfl, rfl⟩

def DivPost (o : Option (List TextH)) (w : World) (e : Ending) (w' : World) : Prop := Below w.heap.size w w' ∧ match o with
  | none => e = .returned (.tuple #[.slice none 0 0, .int .i64 2])
  | some l => ∃ b c, e = .returned (.tuple #[.slice (some ⟨b, 0, none⟩) l.length c, .int .i64 0]) ∧ l.length ≤ c ∧ c ≤ maxLen ∧ (w.heap.size ≤ b ∧ b < w'.heap.size) ∧ ∀ i (h : i < l.length), w'.cell? ⟨b, i, none⟩ = some (.string (textQ l[i]))
theorem splitb_text (sep s : ByteArray) : Lib.splitB sep 0 (Lib.countB s sep) s = (Lib.split s.data.toList sep.data.toList).map textQ := by
  have e := Lib.splitB_data sep 0 (Lib.countB s sep) s
  have e2 : Lib.split s.data.toList sep.data.toList = Lib.splitK sep.data.toList 0 (Lib.countB s sep) s.data.toList := rfl
  rw [e2, ← e, List.map_map]
  conv =>
    lhs
    rw [← List.map_id (Lib.splitB sep 0 (Lib.countB s sep) s)]
  exact List.map_congr_left fun x _ => ByteArray.ext (Array.ext' rfl)

set_option maxRecDepth 100000 in
set_option maxHeartbeats 8000000 in
theorem mdivide_any (raw mk : ByteArray) (m : Int) (w : World) (hs : raw.size ≤ 1000000) (hk : mk.size ≤ 1000) (hm : w.cell? ⟨0, 0, none⟩ = some (.int .i64 m)) :
    Calls Tryz.prog 42 #[.string raw, .string mk] w (DivPost (divP mk.data.toList raw.data.toList) w) := by
  have h1 := Tryz.strings_CutPrefix raw (mk ++ ⟨#[13, 10]⟩) w
  rw [add_text, show (⟨#[13, 10]⟩ : ByteArray).data.toList = [13, 10] from rfl] at h1
  obtain ⟨R, hR⟩ : ∃ R, raw.data.toList = R := ⟨_, rfl⟩
  obtain ⟨K, hK⟩ : ∃ K, mk.data.toList = K := ⟨_, rfl⟩
  have hRl : R.length ≤ 1000000 := by rw [← hR]; exact hs
  have hKl : K.length ≤ 1000 := by rw [← hK]; exact hk
  rw [hR, hK] at h1 ⊢
  obtain ⟨T1, hT1⟩ : ∃ T1, Lib.trimPrefix R (K ++ [13, 10]) = T1 := ⟨_, rfl⟩
  have hT1l : T1.length ≤ 1000000 := by
    rw [← hT1]
    unfold Lib.trimPrefix
    split
    · rw [List.length_drop]
      omega
    · exact hRl
  obtain ⟨b1, hb1⟩ : ∃ b1, Lib.hasPrefix R (K ++ [13, 10]) = b1 := ⟨_, rfl⟩
  obtain ⟨X1, hX1⟩ : ∃ X1, textQ T1 = X1 := ⟨_, rfl⟩
  have hX1d : X1.data.toList = T1 := by rw [← hX1]; rfl
  have h1 : Calls Tryz.prog 59 #[.string raw, .string (mk ++ ⟨#[13, 10]⟩)] w fun e w' => e = .returned (.tuple #[.string X1, .bool b1]) ∧ w' = w := by
    rw [hT1, hb1] at h1
    rw [← hX1]
    exact h1
  obtain ⟨S2, hS2⟩ : ∃ S2, (⟨#[13, 10]⟩ ++ mk ++ ⟨#[45, 45]⟩ ++ ⟨#[13, 10]⟩ : ByteArray) = S2 := ⟨_, rfl⟩
  have hS2d : S2.data.toList = 13 :: 10 :: (K ++ [45, 45, 13, 10]) := by
    rw [← hS2, add_text, add_text, add_text, hK]
    show [13, 10] ++ K ++ [45, 45] ++ [13, 10] = _
    simp
  have h2 := Tryz.strings_CutSuffix X1 S2 w (by
    have : X1.size = T1.length := by rw [← hX1]; rfl
    omega)
  rw [hX1d, hS2d] at h2
  obtain ⟨T2, hT2⟩ : ∃ T2, Lib.trimSuffix T1 (13 :: 10 :: (K ++ [45, 45, 13, 10])) = T2 := ⟨_, rfl⟩
  have hT2l : T2.length ≤ 1000000 := by
    rw [← hT2]
    unfold Lib.trimSuffix
    split
    · rw [List.length_take]
      omega
    · exact hT1l
  obtain ⟨b2, hb2⟩ : ∃ b2, Lib.hasSuffix T1 (13 :: 10 :: (K ++ [45, 45, 13, 10])) = b2 := ⟨_, rfl⟩
  obtain ⟨X2, hX2⟩ : ∃ X2, textQ T2 = X2 := ⟨_, rfl⟩
  have hX2d : X2.data.toList = T2 := by rw [← hX2]; rfl
  have h2 : Calls Tryz.prog 69 #[.string X1, .string S2] w fun e w' => e = .returned (.tuple #[.string X2, .bool b2]) ∧ w' = w := by
    rw [hT2, hb2] at h2
    rw [← hX2]
    exact h2
  obtain ⟨P, hP⟩ : ∃ P, divP K R = P := ⟨_, rfl⟩
  have HP : Hid (P = if b1 = true ∧ b2 = true then (if (Lib.split T2 (13 :: 10 :: (K ++ [13, 10]))).any (hasLineM K) = true then none else some (Lib.split T2 (13 :: 10 :: (K ++ [13, 10])))) else none) := Lib.hid (by
    rw [← hP, ← hb1, ← hb2, ← hT2, ← hT1]
    rfl)
  rw [hP]
  have HX := Lib.hid (And.intro hX2 (And.intro hX2d (And.intro hT2l (And.intro hK hKl))))
  have HS2 := Lib.hid hS2
  have hmk3 : mk.size ≤ 1000 := hk
  clear hR hK hRl hKl hT1 hT1l hb1 hX1 hX1d hS2 hS2d hT2 hT2l hb2 hX2 hX2d hP
  cases b1 with
  | false =>
    have HN : Hid (P = none) := Lib.hid (by rw [HP.out]; simp)
    clear HP
    go_enter Tryz.func42, Tryz.ntmps42
    go_wp2_with fail
    refine h1.mono ?_
    rintro e w1 ⟨rfl, h9⟩
    obtain rfl := h9.symm
    clear h1 h9
    go_wp2_with fail
    rw [HS2.out]
    refine h2.mono ?_
    rintro e w1 ⟨rfl, h9⟩
    obtain rfl := h9.symm
    clear h2 h9
    go_wp2
    go_ret2
    unfold DivPost
    rw [HN.out]
    exact ⟨Below.refl _ _, rfl⟩
  | true =>
    cases b2 with
    | false =>
      have HN : Hid (P = none) := Lib.hid (by rw [HP.out]; simp)
      clear HP
      go_enter Tryz.func42, Tryz.ntmps42
      go_wp2_with fail
      refine h1.mono ?_
      rintro e w1 ⟨rfl, h9⟩
      obtain rfl := h9.symm
      clear h1 h9
      go_wp2_with fail
      rw [HS2.out]
      refine h2.mono ?_
      rintro e w1 ⟨rfl, h9⟩
      obtain rfl := h9.symm
      clear h2 h9
      go_wp2
      go_ret2
      unfold DivPost
      rw [HN.out]
      exact ⟨Below.refl _ _, rfl⟩
    | true =>
      obtain ⟨S3, hS3⟩ : ∃ S3, (⟨#[13, 10]⟩ ++ mk ++ ⟨#[13, 10]⟩ : ByteArray) = S3 := ⟨_, rfl⟩
      have hS3d : S3.data.toList = 13 :: 10 :: (K ++ [13, 10]) := by
        rw [← hS3, add_text, add_text, HX.out.2.2.2.1]
        show [13, 10] ++ K ++ [13, 10] = _
        simp
      have h3 := Tryz.strings_Split X2 S3 m w (by
        have : X2.size = T2.length := by rw [← HX.out.1]; rfl
        have := HX.out.2.2.1
        omega) hm (by
        have e : S3.data.toList.length = S3.size := rfl
        rw [← e, hS3d]
        simp)
      rw [splitb_text, HX.out.2.1, hS3d] at h3
      obtain ⟨ls, hls⟩ : ∃ ls, Lib.split T2 (13 :: 10 :: (K ++ [13, 10])) = ls := ⟨_, rfl⟩
      have hcn : Lib.countB X2 S3 + 1 = ls.length := by
        rw [← hls, split_lenM (by simp) _ _ (Nat.lt_succ_self _)]
        show Lib.count X2.data.toList S3.data.toList + 1 = _
        rw [HX.out.2.1, hS3d]
      have hlb : ls.length ≤ 1000002 := by
        rw [← hls, split_lenM (by simp) _ _ (Nat.lt_succ_self _)]
        have := Lib.count_le T2 (13 :: 10 :: (K ++ [13, 10]))
        have := HX.out.2.2.1
        omega
      rw [hls, hcn] at h3
      have HQ : Hid (P = if ls.any (hasLineM K) = true then none else some ls) := Lib.hid (by rw [HP.out, hls, if_pos ⟨rfl, rfl⟩])
      obtain ⟨w2, hw2⟩ : ∃ w2, w.alloc (.cells ((ls.map textQ).map Value.string).toArray 9) = w2 := ⟨_, rfl⟩
      have hcells : Hid (∀ i (h : i < ls.length), w2.cell? ⟨w.heap.size, i, none⟩ = some (.string (textQ ls[i]))) := Lib.hid fun i h => by
        rw [← hw2, Lib.cell_of_heap (heap_alloc_new w _) i]
        simp [h]
      have hsmall : Hid (∀ i (h : i < ls.length), ls[i].length ≤ 1000000) := Lib.hid fun i h => by
        have h5 : ls[i] ∈ Lib.split T2 (13 :: 10 :: (K ++ [13, 10])) := by
          rw [hls]
          exact List.getElem_mem h
        exact Nat.le_trans (split_mem h5) HX.out.2.2.1
      have b2 : Below w.heap.size w w2 := by rw [← hw2]; exact (Below.refl _ _).alloc (Nat.le_refl _) _
      have hm2 := (b2.cell (p := ⟨0, 0, none⟩) (cell_ltP hm)).trans hm
      have z2 : w.heap.size < w2.heap.size := by rw [← hw2]; simp
      have B2 := Lib.hid b2
      obtain ⟨n, hn⟩ : ∃ n, ls.length = n := ⟨_, rfl⟩
      have HN := Lib.hid hn
      rw [hn] at h3 hlb
      have h3 : Calls Tryz.prog 70 #[.string X2, .string S3] w fun e w' => e = .returned (.slice (some ⟨w.heap.size, 0, none⟩) n n) ∧ w' = w2 := by
        rw [← hw2]
        exact h3
      have HS3 := Lib.hid hS3
      have hline : Hid (∀ i (h : i < ls.length), Calls Tryz.prog 71 #[.string (textQ ls[i]), .string mk] w2 fun e w' => e = .returned (.bool (hasLineM K ls[i])) ∧ w' = w2) := Lib.hid fun i h => by
        have := mhasline_any (textQ ls[i]) mk m w2 (hsmall.out i h) (by omega) hm2
        rw [HX.out.2.2.2.1] at this
        exact this
      have HYes : Hid (∀ i (h : i < ls.length), hasLineM K ls[i] = true → P = none) := Lib.hid fun i h h1 => by
        rw [HQ.out, if_pos (List.any_eq_true.2 ⟨_, List.getElem_mem h, h1⟩)]
      have HNo : Hid ((∀ i (h : i < ls.length), hasLineM K ls[i] = false) → P = some ls) := Lib.hid fun h1 => by
        rw [HQ.out, if_neg]
        intro ha
        obtain ⟨t, ht, hq⟩ := List.any_eq_true.1 ha
        obtain ⟨i, hi, rfl⟩ := List.mem_iff_getElem.1 ht
        rw [h1 i hi] at hq
        cases hq
      clear HP HQ hS3 hS3d hls hcn hw2 hsmall b2 hn hm hm2
      go_enter Tryz.func42, Tryz.ntmps42
      go_wp2_with fail
      refine h1.mono ?_
      rintro e w1 ⟨rfl, h9⟩
      obtain rfl := h9.symm
      clear h1 h9
      go_wp2_with fail
      rw [HS2.out]
      refine h2.mono ?_
      rintro e w1 ⟨rfl, h9⟩
      obtain rfl := h9.symm
      clear h2 h9
      go_wp2_with fail
      rw [HS3.out]
      refine h3.mono ?_
      rintro e w1 ⟨rfl, h9⟩
      obtain rfl := h9.symm
      clear h3 h9
      go_wp2
      go_loopw [42] (fun iv wr => ∃ i : Nat, i ≤ n ∧ iv = .int .i64 i ∧ Hid (∀ j (hj : j < ls.length), j < i → hasLineM K ls[j] = false) ∧ wr = w2) (fun iv _ => n - (intOf iv).toNat)
      case atStart => exact ⟨0, by omega, rfl, Lib.hid (fun j _ h => by omega), (by first | rfl | trivial)⟩
      case round =>
        obtain ⟨i, hi, rfl, hno, hwr⟩ := hrel
        obtain rfl := hwr.symm
        clear hwr
        by_cases hlt : i < n
        · have hil : i < ls.length := by rw [HN.out]; exact hlt
          have z0 := hcells.out i hil
          have hcall := hline.out i hil
          have hyes := Lib.hid (HYes.out i hil)
          have hnx : Hid (hasLineM K ls[i] = false → ∀ j (hj : j < ls.length), j < i + 1 → hasLineM K ls[j] = false) := Lib.hid fun h j hj h3 => by
            rcases Nat.lt_or_ge j i with h4 | h4
            · exact hno.out j hj h4
            · obtain rfl : j = i := by omega
              exact h
          obtain ⟨c, hc⟩ : ∃ c, ls[i] = c := ⟨_, rfl⟩
          rw [hc] at z0 hcall hyes hnx
          obtain ⟨C, hC⟩ : ∃ C, textQ c = C := ⟨_, rfl⟩
          rw [hC] at z0 hcall
          clear hC hc hno
          cases hq : hasLineM K c with
          | true =>
            rw [hq] at hcall
            have Hr := Lib.hid (hyes.out hq)
            clear hyes hnx hq
            go_wp2_with fail
            refine hcall.mono ?_
            rintro e w3 ⟨rfl, h9⟩
            obtain rfl := h9.symm
            clear hcall h9
            go_wp2
            go_ret2
            unfold DivPost
            rw [Hr.out]
            exact ⟨B2.out, rfl⟩
          | false =>
            rw [hq] at hcall
            have Hr := Lib.hid (hnx.out hq)
            clear hyes hnx hq
            go_wp2_with fail
            refine hcall.mono ?_
            rintro e w3 ⟨rfl, h9⟩
            obtain rfl := h9.symm
            clear hcall h9
            go_wp2
            go_roundw
            case rel => exact ⟨i + 1, by omega, by go_num, Hr, (by first | rfl | trivial)⟩
            case measure => simp [intOf]; omega
        · obtain rfl : i = n := by omega
          have Hr := Lib.hid (HNo.out fun j hj => hno.out j hj (by rw [← HN.out]; exact hj))
          clear hno
          go_wp2
          go_ret2
          unfold DivPost
          rw [Hr.out]
          refine ⟨B2.out, w.heap.size, i, by rw [HN.out]; rfl, by rw [HN.out]; exact Nat.le_refl _, by unfold maxLen; omega, ⟨Nat.le_refl _, z2⟩, hcells.out⟩

def textsT (c raw : TextH) (t : TypeC) : Option (List TextH) := if borderM t = [] ∨ (c ≠ bit7M ∧ c ≠ bit8M) then none else divP (45 :: 45 :: borderM t) raw
set_option maxRecDepth 100000 in
set_option maxHeartbeats 4000000 in
theorem mtextsof_any (B : Nat) (v : Value) (raw : ByteArray) (t : TypeC) (c : TextH) (m : Int) (w : World) (h : ParsAt w B v t.2.2) (hB : B ≤ w.heap.size) (hs : raw.size ≤ 1000000) (hp : ∀ p ∈ t.2.2, p.2.length ≤ 900) (hm : w.cell? ⟨0, 0, none⟩ = some (.int .i64 m)) :
    Calls Tryz.prog 25 #[.string raw, typeV t v, .string (textQ c)] w (DivPost (textsT c raw.data.toList t) w) := by
  obtain ⟨ao, cap, rfl, hc1, hc2⟩ := h.slice
  obtain ⟨w1, hw1⟩ : ∃ w1, w.alloc (.cells #[.string (textQ t.1), .string (textQ t.2.1), .slice ao t.2.2.length cap] 26) = w1 := ⟨_, rfl⟩
  have b1 : Below w.heap.size w w1 := by rw [← hw1]; exact (Below.refl _ _).alloc (Nat.le_refl _) _
  have t1 : TypAt w1 w.heap.size (textQ t.1) (textQ t.2.1) ao t.2.2.length cap := by rw [← hw1]; exact typ_new w _ _ _ _ _
  have z1 : w.heap.size < w1.heap.size := by rw [← hw1]; simp
  have hpar := cparam_any B _ t boundM w1 (h.below b1 hB) (by omega) (fun p hp2 => by have := hp p hp2; omega)
  have hbl : (borderM t).length ≤ 900 := by
    unfold borderM findC
    cases hf : List.find? (fun p => p.1 == boundM) t.2.2 with
    | none => exact Nat.zero_le _
    | some p => exact hp p (List.mem_of_find?_eq_some hf)
  obtain ⟨W, hW⟩ : ∃ W, textQ (borderM t) = W := ⟨_, rfl⟩
  have hpv : ∃ bb, paramV t.2.2 boundM = .tuple #[.string W, .bool bb] := by
    rw [← hW]
    unfold paramV borderM
    cases findC t.2.2 boundM with
    | none => exact ⟨_, rfl⟩
    | some p => exact ⟨_, rfl⟩
  obtain ⟨bb, hbb⟩ := hpv
  rw [hbb] at hpar
  have hWl : W.toList = borderM t := by rw [← hW, Lib.toList_data]; rfl
  have hWs : W.size ≤ 900 := by rw [← hW]; exact hbl
  have hWd : W.data.toList = borderM t := by rw [← hW]; rfl
  obtain ⟨C, hC⟩ : ∃ C, textQ c = C := ⟨_, rfl⟩
  have hCl : C.toList = c := by rw [← hC, Lib.toList_data]; rfl
  have hm1 := (b1.cell (p := ⟨0, 0, none⟩) (cell_ltP hm)).trans hm
  have hdiv : Hid (∀ W2, Below w1.heap.size w1 W2 → Calls Tryz.prog 42 #[.string raw, .string (⟨#[45, 45]⟩ ++ W)] W2 (DivPost (divP (45 :: 45 :: borderM t) raw.data.toList) W2)) := Lib.hid fun W2 h2 => by
    have := mdivide_any raw (⟨#[45, 45]⟩ ++ W) m W2 hs (by rw [ByteArray.size_append]; show 2 + W.size ≤ 1000; omega) ((h2.cell (p := ⟨0, 0, none⟩) (cell_ltP hm1)).trans hm1)
    rw [add_text, hWd] at this
    exact this
  unfold textsT typeV
  obtain ⟨X, hX⟩ : ∃ X, textQ t.1 = X := ⟨_, rfl⟩
  obtain ⟨Y, hY⟩ : ∃ Y, textQ t.2.1 = Y := ⟨_, rfl⟩
  obtain ⟨n, hn⟩ : ∃ n, t.2.2.length = n := ⟨_, rfl⟩
  unfold typeV at hpar
  rw [hX, hY, hn] at hpar t1
  rw [hX, hY, hn, hC]
  obtain ⟨c0, c1, c2, _⟩ := t1.cells
  have B1 := Lib.hid (And.intro b1 hw1)
  rw [hX, hY, hn] at hw1
  clear hX hY hn hbb hW hbl h hp t1 hm hm1 hC hWd
  have HN0 : Hid (∀ w', Below w.heap.size w w' → DivPost none w (.returned (.tuple #[.slice none 0 0, .int .i64 2])) w') := Lib.hid fun w' hb => ⟨hb, rfl⟩
  have Hb1 := Lib.hid b1
  clear b1
  by_cases h0 : borderM t = []
  · have g0 : W.toList = [] := by rw [hWl]; exact h0
    have g1 : W.toList.isEmpty = true := by rw [g0]; rfl
    rw [if_pos (.inl h0)]
    clear hdiv hWl h0 g0
    go_enter Tryz.func25, Tryz.ntmps25
    go_wp2_with fail
    refine hpar.mono ?_
    rintro e w2 ⟨rfl, hb⟩
    have hb9 := Lib.hid (HN0.out _ (Hb1.out.trans (hb.mono (by omega))))
    clear hpar hb
    go_wp2
    go_ret2
    exact hb9.out
  · have g1 : W.toList.isEmpty = false := by
      rw [hWl]
      cases hq : borderM t with
      | nil => exact absurd hq h0
      | cons _ _ => rfl
    by_cases h7 : c = bit7M
    · have q1 : (C.toList == [55, 98, 105, 116]) = true := by rw [hCl, h7]; rfl
      have q2 : (C.toList != [55, 98, 105, 116]) = false := by rw [hCl, h7]; rfl
      rw [if_neg (fun e => e.elim h0 (fun e => e.1 h7))]
      obtain ⟨D, hD⟩ : ∃ D, divP (45 :: 45 :: borderM t) raw.data.toList = D := ⟨_, rfl⟩
      rw [hD] at hdiv ⊢
      clear hWl h0 hCl hD h7
      cases D with
      | none =>
        go_enter Tryz.func25, Tryz.ntmps25
        go_wp2_with fail
        refine hpar.mono ?_
        rintro e w2 ⟨rfl, hb⟩
        have hd := hdiv.out w2 hb
        have hb9 := Lib.hid (Hb1.out.trans (hb.mono (by omega)))
        have hz9 : w.heap.size ≤ w2.heap.size := by have := hb.size; omega
        clear hpar hb hdiv
        go_wp2_with fail
        refine hd.mono ?_
        rintro e w3 ⟨hb3, rfl⟩
        have hb8 := Lib.hid (HN0.out _ (hb9.out.trans (hb3.mono hz9)))
        clear hd hb3
        go_wp2
        go_ret2
        exact hb8.out
      | some ls =>
        go_enter Tryz.func25, Tryz.ntmps25
        go_wp2_with fail
        refine hpar.mono ?_
        rintro e w2 ⟨rfl, hb⟩
        have hd := hdiv.out w2 hb
        have hb9 := Lib.hid (Hb1.out.trans (hb.mono (by omega)))
        have hz9 : w.heap.size ≤ w2.heap.size := by have := hb.size; omega
        clear hpar hb hdiv
        go_wp2_with fail
        refine hd.mono ?_
        rintro e w3 ⟨hb3, b, k, rfl, f1, f2, f3, f4⟩
        have hb8 : Hid (DivPost (some ls) w (.returned (.tuple #[.slice (some ⟨b, 0, none⟩) ls.length k, .int .i64 0])) w3) := Lib.hid ⟨hb9.out.trans (hb3.mono hz9), b, k, rfl, f1, f2, ⟨Nat.le_trans hz9 f3.1, f3.2⟩, f4⟩
        clear hd hb3 f1 f2 f3 f4
        go_wp2
        go_ret2
        exact hb8.out
    · have q1 : (C.toList == [55, 98, 105, 116]) = false := by rw [hCl]; exact beq_eq_false_iff_ne.2 h7
      have q2 : (C.toList != [55, 98, 105, 116]) = true := by unfold bne; rw [q1]; rfl
      by_cases h8 : c = bit8M
      · have q3 : (C.toList == [56, 98, 105, 116]) = true := by rw [hCl, h8]; rfl
        have q4 : (C.toList != [56, 98, 105, 116]) = false := by rw [hCl, h8]; rfl
        rw [if_neg (fun e => e.elim h0 (fun e => e.2 h8))]
        obtain ⟨D, hD⟩ : ∃ D, divP (45 :: 45 :: borderM t) raw.data.toList = D := ⟨_, rfl⟩
        rw [hD] at hdiv ⊢
        clear hWl h0 hCl hD h7 h8
        cases D with
        | none =>
          go_enter Tryz.func25, Tryz.ntmps25
          go_wp2_with fail
          refine hpar.mono ?_
          rintro e w2 ⟨rfl, hb⟩
          have hd := hdiv.out w2 hb
          have hb9 := Lib.hid (Hb1.out.trans (hb.mono (by omega)))
          have hz9 : w.heap.size ≤ w2.heap.size := by have := hb.size; omega
          clear hpar hb hdiv
          go_wp2_with fail
          refine hd.mono ?_
          rintro e w3 ⟨hb3, rfl⟩
          have hb8 := Lib.hid (HN0.out _ (hb9.out.trans (hb3.mono hz9)))
          clear hd hb3
          go_wp2
          go_ret2
          exact hb8.out
        | some ls =>
          go_enter Tryz.func25, Tryz.ntmps25
          go_wp2_with fail
          refine hpar.mono ?_
          rintro e w2 ⟨rfl, hb⟩
          have hd := hdiv.out w2 hb
          have hb9 := Lib.hid (Hb1.out.trans (hb.mono (by omega)))
          have hz9 : w.heap.size ≤ w2.heap.size := by have := hb.size; omega
          clear hpar hb hdiv
          go_wp2_with fail
          refine hd.mono ?_
          rintro e w3 ⟨hb3, b, k, rfl, f1, f2, f3, f4⟩
          have hb8 : Hid (DivPost (some ls) w (.returned (.tuple #[.slice (some ⟨b, 0, none⟩) ls.length k, .int .i64 0])) w3) := Lib.hid ⟨hb9.out.trans (hb3.mono hz9), b, k, rfl, f1, f2, ⟨Nat.le_trans hz9 f3.1, f3.2⟩, f4⟩
          clear hd hb3 f1 f2 f3 f4
          go_wp2
          go_ret2
          exact hb8.out
      · have q3 : (C.toList == [56, 98, 105, 116]) = false := by rw [hCl]; exact beq_eq_false_iff_ne.2 h8
        have q4 : (C.toList != [56, 98, 105, 116]) = true := by unfold bne; rw [q3]; rfl
        rw [if_pos (.inr ⟨h7, h8⟩)]
        clear hdiv hWl h0 hCl h7 h8
        go_enter Tryz.func25, Tryz.ntmps25
        go_wp2_with fail
        refine hpar.mono ?_
        rintro e w2 ⟨rfl, hb⟩
        have hb9 := Lib.hid (HN0.out _ (Hb1.out.trans (hb.mono (by omega))))
        clear hpar hb
        go_wp2
        go_ret2
        exact hb9.out
end Go.Proofs.YtjikghndoklajaaGreatDoor
