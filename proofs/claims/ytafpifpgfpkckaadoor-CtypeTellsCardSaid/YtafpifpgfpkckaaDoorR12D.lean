/-
  The document's answer of layer 12: Print.
-/
import Derived.Test.YtafpifpgfpkckaaDoorR12B
namespace Go.Proofs.YtafpifpgfpkckaaDoor
open Go.RowKit

theorem head_all (t : TypeC) : headC t t.2.2.length = textC t := by
  unfold headC textC
  rw [List.take_length]

set_option maxRecDepth 100000 in
set_option maxHeartbeats 8000000 in
theorem r12print_any (B : Nat) (v : Value) (t : TypeC) (w : World) (h : ParsAt w B v t.2.2) (hB : B ≤ w.heap.size) (hs1 : t.1.length ≤ 1000000000) (hs2 : t.2.1.length ≤ 1000000000) (hs : ∀ p ∈ t.2.2, p.1.length ≤ 1000000000 ∧ p.2.length ≤ 1000000000) :
    Calls Tryd.prog 11 #[typeV t v] w fun e w' => e = .returned (printV12 t) ∧ Below w.heap.size w w' := by
  obtain ⟨ao, cap, rfl, hc1, hc2⟩ := h.slice
  have hr : Hid (∀ W, Below w.heap.size w W → Calls Tryd.prog 18 #[.agg #[.string (textQ t.1), .string (textQ t.2.1), .slice ao t.2.2.length cap]] W fun e w' => e = .returned (.bool (rightC t)) ∧ Below W.heap.size W w') := Lib.hid fun W hW => r12right_any B _ t W (h.below hW hB) (Nat.le_trans hB hW.size) hs1 hs2 hs
  have Hat : Hid (∀ W, Below w.heap.size w W → ∀ i (hi : i < t.2.2.length), ∃ g off, ao = some ⟨g, off, none⟩ ∧ g < B ∧ W.cell? ⟨g, off + i * 2, none⟩ = some (.string (textQ t.2.2[i].1)) ∧ W.cell? ⟨g, off + i * 2 + 1, none⟩ = some (.string (textQ t.2.2[i].2))) := Lib.hid fun W hW i hi => by
    obtain ⟨ao2, cap2, e, _, _, h4⟩ := h.below hW hB
    cases e
    exact h4 i hi
  unfold typeV
  unfold maxLen at hc2
  obtain ⟨X, hX⟩ : ∃ X, textQ t.1 = X := ⟨_, rfl⟩
  obtain ⟨Y, hY⟩ : ∃ Y, textQ t.2.1 = Y := ⟨_, rfl⟩
  obtain ⟨n, hn⟩ : ∃ n, t.2.2.length = n := ⟨_, rfl⟩
  rw [hX, hY, hn] at hr
  rw [hn] at hc1
  rw [hX, hY, hn]
  obtain ⟨w0, hw0⟩ : ∃ w0, w.alloc (.cells #[.string X, .string Y, .slice ao n cap] 24) = w0 := ⟨_, rfl⟩
  have b0 : Below w.heap.size w w0 := by rw [← hw0]; exact (Below.refl _ _).alloc (Nat.le_refl _) _
  have t0 : TypAt w0 w.heap.size X Y ao n cap := by rw [← hw0]; exact typ_new w _ _ _ _ _
  obtain ⟨c0, c1, c2, _⟩ := t0.cells
  have K0 := Lib.hid (And.intro b0 t0)
  have hr0 := hr.out w0 b0
  clear h hr t0 hs hs1 hs2
  cases hq : rightC t with
  | false =>
    rw [hq] at hr0
    rw [print_bad12 hq]
    clear hX hY hn hq
    go_enter Tryd.func11, Tryd.ntmps11
    go_wp2_with (go_at_call 18; refine hr0.mono ?_; rintro e w1 ⟨rfl, hw1⟩)
    go_ret2
    exact ⟨rfl, b0.trans (hw1.mono b0.size)⟩
  | true =>
    rw [hq] at hr0
    have Hr := Lib.hid (print_good12 hq)
    have Hl := Lib.hid (fun k => head_len hq k)
    have Hpl := Lib.hid (right_parts hq)
    have HX := Lib.hid (And.intro hX (And.intro hY hn))
    obtain ⟨PV, hPV⟩ : ∃ PV, printV12 t = PV := ⟨_, rfl⟩
    rw [hPV] at Hr ⊢
    have hXs : X.size ≤ 64 := by rw [← hX]; exact Hpl.out.1
    have hYs : Y.size ≤ 64 := by rw [← hY]; exact Hpl.out.2.1
    have hn8 : n ≤ 8 := by rw [← hn]; exact Hpl.out.2.2.1
    obtain ⟨S0, hS0⟩ : ∃ S, X ++ (⟨#[47]⟩ : ByteArray) ++ Y = S := ⟨_, rfl⟩
    have HS0 : Hid (S0.data.toList = headC t 0) := Lib.hid (by
      rw [← hS0, ← hX, ← hY, ByteArray.data_append, ByteArray.data_append, Array.toList_append, Array.toList_append]
      unfold headC
      simp [textQ])
    have k1 : ¬ 9223372036854775807 < X.size + 1 := by omega
    have k2 : ¬ 9223372036854775807 < X.size + 1 + Y.size := by omega
    clear hq hPV hX hY hn
    go_enter Tryd.func11, Tryd.ntmps11
    go_wp2_with fail
    refine hr0.mono ?_
    rintro e w1 ⟨rfl, hw1⟩
    have K1 : Hid (Below w.heap.size w w1 ∧ TypAt w1 w.heap.size X Y ao n cap) := Lib.hid ⟨K0.out.1.trans (hw1.mono K0.out.1.size), K0.out.2.below hw1⟩
    obtain ⟨c0, c1, c2, _⟩ := K1.out.2.cells
    clear hr0 hw1 K0
    go_wp2
    go_loopw [4, 5] (fun sv iv wr => ∃ (i : Nat) (S : ByteArray), i ≤ n ∧ iv = .int .i64 i ∧ sv = .string S ∧ Hid (S.data.toList = headC t i) ∧ wr = w1) (fun _ iv _ => n - (intOf iv).toNat)
    case atStart => exact ⟨0, S0, by omega, rfl, rfl, HS0, (by first | rfl | trivial)⟩
    case round =>
      obtain ⟨i, S, hi, rfl, rfl, hSd, hwr⟩ := hrel
      obtain rfl := hwr.symm
      clear hwr
      have hSs : S.size ≤ 3000 := by
        have e : S.size = S.data.toList.length := rfl
        rw [e, hSd.out]
        exact Hl.out i
      by_cases hlt : i < n
      · have hil : i < t.2.2.length := by rw [HX.out.2.2]; exact hlt
        obtain ⟨g, off, rfl, hgB, y0, y1⟩ := Hat.out w1 K1.out.1 i hil
        obtain ⟨m1, m2⟩ := Hpl.out.2.2.2 _ (List.getElem_mem hil)
        have hsn := head_snoc t i hil
        obtain ⟨f, hf⟩ : ∃ f, t.2.2[i] = f := ⟨_, rfl⟩
        rw [hf] at y0 y1 m1 m2 hsn
        obtain ⟨N, hN⟩ : ∃ X, textQ f.1 = X := ⟨_, rfl⟩
        obtain ⟨V, hV⟩ : ∃ X, textQ f.2 = X := ⟨_, rfl⟩
        have hNs : N.size ≤ 64 := by rw [← hN]; exact m1
        have hVs : V.size = f.2.length := by rw [← hV]; rfl
        have hVd : V.data.toList = f.2 := by rw [← hV]; rfl
        have hV70 : V.size ≤ 70 := by omega
        have htk := fun W => r12token_any V W (by omega)
        rw [hVd] at htk
        obtain ⟨S3, hS3⟩ : ∃ X, S ++ (⟨#[59, 32]⟩ : ByteArray) ++ N ++ (⟨#[61]⟩ : ByteArray) = X := ⟨_, rfl⟩
        have hS3d : S3.data.toList = headC t i ++ ([59, 32] ++ (f.1 ++ [61])) := by
          rw [← hS3, ← hN, ByteArray.data_append, ByteArray.data_append, ByteArray.data_append, Array.toList_append, Array.toList_append, Array.toList_append, hSd.out]
          simp [textQ]
        have hS3s : S3.size ≤ 3067 := by
          have e : S3.size = S3.data.toList.length := rfl
          have h9 := Hl.out i
          rw [e, hS3d]
          simp only [List.length_append, List.length_cons, List.length_nil]
          omega
        have hsn2 : headC t (i + 1) = S3.data.toList ++ valTextC f.2 := by
          rw [hsn, hS3d]
          simp
        have k3 : ¬ 9223372036854775807 < S.size + 2 := by omega
        have k4 : ¬ 9223372036854775807 < S.size + 2 + N.size := by omega
        have k5 : ¬ 9223372036854775807 < S.size + 2 + N.size + 1 := by omega
        rw [hN] at y0
        rw [hV] at y1
        have Hsn := Lib.hid hsn2
        have HVq := Lib.hid (And.intro hVs hVd)
        have hii : (i : Int) < (n : Int) := by omega
        clear hN hV hf hsn hsn2 hS3d hVs hVd m1 m2 hil hSd
        cases hq : tokT f.2 with
        | true =>
          simp only [hq] at htk
          obtain ⟨S4, hS4⟩ : ∃ X, S3 ++ V = X := ⟨_, rfl⟩
          have HS4 : Hid (S4.data.toList = headC t (i + 1)) := Lib.hid (by
            rw [← hS4, ByteArray.data_append, Array.toList_append, HVq.out.2, Hsn.out]
            unfold valTextC
            rw [if_pos hq])
          have k6 : ¬ 9223372036854775807 < S3.size + V.size := by omega
          clear hq Hsn
          go_wp2_with (go_at_call 25; refine (htk _).mono ?_; rintro e w2 ⟨rfl, h9⟩; obtain rfl := h9.symm)
          go_roundw
          case rel => exact ⟨i + 1, S4, by omega, by go_num, rfl, HS4, (by first | rfl | trivial)⟩
          case measure => simp [intOf]; omega
        | false =>
          simp only [hq] at htk
          obtain ⟨S4, hS4⟩ : ∃ X, S3 ++ (⟨#[34]⟩ : ByteArray) = X := ⟨_, rfl⟩
          have HS4 : Hid (S4.data.toList = S3.data.toList ++ 34 :: (f.2.take 0).flatMap tellA) := Lib.hid (by
            rw [← hS4, ByteArray.data_append, Array.toList_append]
            rfl)
          have Hend : Hid (headC t (i + 1) = S3.data.toList ++ 34 :: (f.2.flatMap tellA ++ [34])) := Lib.hid (by
            rw [Hsn.out]
            unfold valTextC quoteA
            rw [hq, if_neg (by simp)])
          have k6 : ¬ 9223372036854775807 < S3.size + 1 := by omega
          clear hq Hsn
          go_wp2_with (go_at_call 25; refine (htk _).mono ?_; rintro e w2 ⟨rfl, h9⟩; obtain rfl := h9.symm)
          clear htk
          go_loopw [4, 7] (fun sv kv wx => ∃ (k : Nat) (S5 : ByteArray), k ≤ V.size ∧ kv = .int .i64 k ∧ sv = .string S5 ∧ Hid (S5.data.toList = S3.data.toList ++ 34 :: (f.2.take k).flatMap tellA) ∧ wx = w1) (fun _ kv _ => V.size - (intOf kv).toNat)
          case atStart => exact ⟨0, S4, by omega, rfl, rfl, HS4, (by first | rfl | trivial)⟩
          case round =>
            obtain ⟨k, S5, hk, rfl, rfl, hS5, hwx⟩ := hrel
            obtain rfl := hwx.symm
            clear hwx HS4 hS4
            have hS5s : S5.size ≤ 3300 := by
              have e : S5.size = S5.data.toList.length := rfl
              have e3 : S3.data.toList.length = S3.size := rfl
              have h9 := tells_len (f.2.take k)
              rw [List.length_take] at h9
              have := HVq.out.1
              rw [e, hS5.out, List.length_append, List.length_cons, e3]
              omega
            by_cases hkl : k < V.size
            · have hkf : k < f.2.length := by have := HVq.out.1; omega
              have htn := tells_snoc f.2 k hkf
              obtain ⟨c, hc⟩ : ∃ c, f.2[k] = c := ⟨_, rfl⟩
              rw [hc] at htn
              have hbyte : V[k] = c := by
                have : V.data.toList[k]'(by show k < V.size; omega) = f.2[k] := by simp only [HVq.out.2]
                exact this.trans hc
              have hcn : (V[k].toNat : Int) = c.toNat := by rw [hbyte]
              obtain ⟨C, hC⟩ : ∃ C, V.extract k (k + 1) = C := ⟨_, rfl⟩
              have hCd : C.data.toList = [c] := by
                rw [← hC, cut_text, HVq.out.2]
                show (f.2.drop k).take (k + 1 - k) = _
                rw [List.drop_eq_getElem_cons hkf, show k + 1 - k = 1 by omega, hc]
                rfl
              have hCs : C.size = 1 := by
                have e : C.size = C.data.toList.length := rfl
                rw [e, hCd]
                rfl
              have hw : IntKind.i64.wrap ((k : Int) + 1) = (k : Int) + 1 := by rw [IntWalk.i64_in _ (by omega)]
              have hle : (k : Int) + 1 ≤ (V.size : Int) := by omega
              by_cases he : c = 34 ∨ c = 92
              · rw [show tellA c = [92, c] by unfold tellA; rw [if_pos he]] at htn
                obtain ⟨S6, hS6⟩ : ∃ X, S5 ++ (⟨#[92]⟩ : ByteArray) ++ C = X := ⟨_, rfl⟩
                have HS6 : Hid (S6.data.toList = S3.data.toList ++ 34 :: (f.2.take (k + 1)).flatMap tellA) := Lib.hid (by
                  rw [← hS6, ByteArray.data_append, ByteArray.data_append, Array.toList_append, Array.toList_append, hS5.out, hCd, htn]
                  simp)
                have k7 : ¬ 9223372036854775807 < S5.size + 1 := by omega
                have k8 : ¬ 9223372036854775807 < S5.size + 1 + C.size := by omega
                have f3 : ((V[k].toNat : Int) == 34) = true ∨ (((V[k].toNat : Int) == 34) = false ∧ ((V[k].toNat : Int) == 92) = true) := by
                  rw [hcn]
                  rcases he with rfl | rfl
                  · exact .inl rfl
                  · exact .inr ⟨rfl, rfl⟩
                clear hS5 hCd hc htn hbyte hcn he hCs
                rcases f3 with f1 | ⟨f1, f2⟩
                all_goals
                  go_wp2
                  go_roundw
                  case rel => exact ⟨k + 1, S6, by omega, by go_num, rfl, HS6, (by first | rfl | trivial)⟩
                  case measure => simp [intOf]; omega
              · rw [show tellA c = [c] by unfold tellA; rw [if_neg he]] at htn
                obtain ⟨S6, hS6⟩ : ∃ X, S5 ++ C = X := ⟨_, rfl⟩
                have HS6 : Hid (S6.data.toList = S3.data.toList ++ 34 :: (f.2.take (k + 1)).flatMap tellA) := Lib.hid (by
                  rw [← hS6, ByteArray.data_append, Array.toList_append, hS5.out, hCd, htn]
                  simp)
                have k7 : ¬ 9223372036854775807 < S5.size + C.size := by omega
                have f1 : ((V[k].toNat : Int) == 34) = false := by
                  rw [hcn, beq_eq_false_iff_ne]
                  exact fun e => he (.inl (UInt8.toNat_inj.1 (by show c.toNat = 34; omega)))
                have f2 : ((V[k].toNat : Int) == 92) = false := by
                  rw [hcn, beq_eq_false_iff_ne]
                  exact fun e => he (.inr (UInt8.toNat_inj.1 (by show c.toNat = 92; omega)))
                clear hS5 hCd hc htn hbyte hcn he hCs
                go_wp2
                go_roundw
                case rel => exact ⟨k + 1, S6, by omega, by go_num, rfl, HS6, (by first | rfl | trivial)⟩
                case measure => simp [intOf]; omega
            · obtain rfl : k = V.size := by omega
              obtain ⟨S6, hS6⟩ : ∃ X, S5 ++ (⟨#[34]⟩ : ByteArray) = X := ⟨_, rfl⟩
              have HS6 : Hid (S6.data.toList = headC t (i + 1)) := Lib.hid (by
                rw [← hS6, ByteArray.data_append, Array.toList_append, hS5.out, List.take_of_length_le (by have := HVq.out.1; omega), Hend.out]
                simp)
              have k7 : ¬ 9223372036854775807 < S5.size + 1 := by omega
              clear hS5
              go_wp2
              go_roundw
              case rel => exact ⟨i + 1, S6, by omega, by go_num, rfl, HS6, (by first | rfl | trivial)⟩
              case measure => simp [intOf]; omega
      · obtain rfl : i = n := by omega
        have HR : Hid (PV = .tuple #[.string S, .int .i64 0]) := Lib.hid (by
          rw [Hr.out]
          congr 3
          rw [← head_all, HX.out.2.2, ← hSd.out]
          rfl)
        clear hSd
        go_wp2
        go_ret2
        exact ⟨by rw [HR.out]; rfl, K1.out.1⟩
end Go.Proofs.YtafpifpgfpkckaaDoor
