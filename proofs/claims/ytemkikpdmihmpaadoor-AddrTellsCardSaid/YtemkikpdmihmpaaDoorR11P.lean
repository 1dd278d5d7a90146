/-
  The document's answer of layer 11: a list's text.
-/
import Derived.Test.YtemkikpdmihmpaaDoorR11C
import Derived.Test.YtemkikpdmihmpaaDoorAdN
namespace Go.Proofs.YtemkikpdmihmpaaDoor
open Go.RowKit

theorem text_append (a b : TextA) : textQ a ++ textQ b = textQ (a ++ b) := by
  apply ByteArray.ext
  rw [ByteArray.data_append]
  simp [textQ]
/-- Addresses of no great length. -/
def SmallA (n : Nat) (l : List AddrA) : Prop := ∀ a ∈ l, a.1.length ≤ n ∧ a.2.1.length ≤ n ∧ a.2.2.length ≤ n

set_option maxRecDepth 100000 in
set_option maxHeartbeats 16000000 in
theorem r11print_any (B : Nat) (v : Value) (l : List AddrA) (w : World) (h : AddrsAt w B v l) (hB : B ≤ w.heap.size) (hsm : SmallA 1000000 l) (hln : l.length ≤ 1000) :
    Calls Tryd.prog 8 #[v] w fun e w' => e = .returned (printV11 l) ∧ Below w.heap.size w w' := by
  obtain ⟨ao, cap, rfl, hc1, hc2, hat⟩ := h
  have Hat := Lib.hid hat
  have Hsm := Lib.hid hsm
  obtain ⟨n, hnl⟩ : ∃ n, l.length = n := ⟨_, rfl⟩
  unfold maxLen at hc2
  rw [hnl] at hc1 hln ⊢
  have Hn0 := Lib.hid hnl
  obtain ⟨PV, hPV⟩ : ∃ PV, printV11 l = PV := ⟨_, rfl⟩
  rw [hPV]
  have HPV := Lib.hid hPV
  clear hat hsm hnl hPV
  go_enter Tryd.func8, Tryd.ntmps8
  go_wp2
  go_loopw [4, 5] (fun sv iv wr => ∃ (i : Nat) (S : ByteArray), i ≤ n ∧ iv = .int .i64 i ∧ sv = .string S ∧ Hid (textQ (listTextA (l.take i)) = S) ∧ S.size ≤ 500 * i ∧ Hid (∀ j (hj : j < l.length), j < i → rightA l[j] = true) ∧ Below w.heap.size w wr) (fun _ iv _ => n - (intOf iv).toNat)
  case atStart => exact ⟨0, ⟨#[]⟩, by omega, rfl, rfl, Lib.hid rfl, by decide, Lib.hid (fun j _ h => by omega), Below.refl _ _⟩
  case round =>
    obtain ⟨i, S, hi, rfl, rfl, HS, hSs, hg, hbr⟩ := hrel
    have hbz := hbr.size
    by_cases hlt : i < n
    · have hil : i < l.length := by rw [Hn0.out]; exact hlt
      obtain ⟨g, off, rfl, hgB, z0, z1, z2⟩ := Hat.out i hil
      obtain ⟨s0, s1, s2⟩ := Hsm.out _ (List.getElem_mem hil)
      have hbad : Hid (rightA l[i] = false → PV = .tuple #[.string ⟨#[]⟩, .int .i64 2]) := Lib.hid fun h => by
        rw [← HPV.out]
        exact print_bad (List.all_eq_false.2 ⟨l[i], List.getElem_mem hil, by rw [h]; simp⟩)
      have hyes : Hid (rightA l[i] = true → ∀ j (hj : j < l.length), j < i + 1 → rightA l[j] = true) := Lib.hid fun h j hj h3 => by
        rcases Nat.lt_or_ge j i with h4 | h4
        · exact hg.out j hj h4
        · obtain rfl : j = i := by omega
          exact h
      have htk : l.take (i + 1) = l.take i ++ [l[i]] := by rw [List.take_succ_eq_append_getElem hil]
      have hr := fun W => r11right_any l[i] W s0 s1 s2
      obtain ⟨f, hf⟩ : ∃ f, l[i] = f := ⟨_, rfl⟩
      rw [hf] at z0 z1 z2 hbad hyes htk
      simp only [hf] at hr
      unfold addrV at hr
      obtain ⟨X, hX⟩ : ∃ X, textQ f.1 = X := ⟨_, rfl⟩
      obtain ⟨Y, hY⟩ : ∃ Y, textQ f.2.1 = Y := ⟨_, rfl⟩
      obtain ⟨Z, hZ⟩ : ∃ Z, textQ f.2.2 = Z := ⟨_, rfl⟩
      rw [hX] at z0
      rw [hY] at z1
      rw [hZ] at z2
      simp only [hX, hY, hZ] at hr
      have hY0 : Hid (∀ W, Below w.heap.size w W → W.cell? ⟨g, off + i * 3, none⟩ = some (.string X) ∧ W.cell? ⟨g, off + i * 3 + 1, none⟩ = some (.string Y) ∧ W.cell? ⟨g, off + i * 3 + 2, none⟩ = some (.string Z)) := Lib.hid fun W hW =>
        ⟨(hW.cell (p := ⟨g, off + i * 3, none⟩) (by show g < w.heap.size; omega)).trans z0, (hW.cell (p := ⟨g, off + i * 3 + 1, none⟩) (by show g < w.heap.size; omega)).trans z1, (hW.cell (p := ⟨g, off + i * 3 + 2, none⟩) (by show g < w.heap.size; omega)).trans z2⟩
      obtain ⟨y0, y1, y2⟩ := hY0.out wr hbr
      have Htk := Lib.hid htk
      have HX := Lib.hid hX
      have HY := Lib.hid hY
      have HZ := Lib.hid hZ
      clear z0 z1 z2 s0 s1 s2 hX hY hZ hg hil hf htk
      cases hq : rightA f with
      | false =>
        rw [hq] at hr
        have Hr := Lib.hid (hbad.out hq)
        clear hbad hyes hq
        go_wp2_with (go_at_call 15; refine (hr _).mono ?_; rintro e w1 ⟨rfl, hw1⟩)
        have hb1 := hbr.trans (hw1.mono hbz)
        go_ret2
        exact ⟨by rw [Hr.out]; rfl, hb1⟩
      | true =>
        rw [hq] at hr
        have Hr3 := Lib.hid (hyes.out hq)
        have Hr2 : Hid (∀ a ∈ l.take (i + 1), rightA a = true) := Lib.hid fun a ha => by
          obtain ⟨j, hj, rfl⟩ := List.mem_iff_getElem.1 ha
          rw [List.length_take] at hj
          rw [List.getElem_take]
          exact Hr3.out j (by omega) (by omega)
        obtain ⟨m1, m2, m3⟩ := right_len hq
        have hXs : X.size ≤ 64 := by rw [← HX.out]; exact m1
        have hYs : Y.size ≤ 64 := by rw [← HY.out]; exact m2
        have hZs : Z.size ≤ 64 := by rw [← HZ.out]; exact m3
        obtain ⟨T, hT⟩ : ∃ T, Y ++ (⟨#[64]⟩ : ByteArray) ++ Z = T := ⟨_, rfl⟩
        have HT : Hid (textQ (bareA f) = T) := Lib.hid (by
          rw [← hT, ← HY.out, ← HZ.out]
          unfold bareA
          rw [show f.2.1 ++ 64 :: f.2.2 = f.2.1 ++ ([64] ++ f.2.2) from rfl, ← text_append, ← text_append, ByteArray.append_assoc]
          rfl)
        have hTs : T.size ≤ 129 := by
          have e : T.size = (bareA f).length := by rw [← HT.out]; rfl
          rw [e, bare_len2]
          omega
        have k1 : ¬ 9223372036854775807 < Y.size + 1 := by omega
        have k2 : ¬ 9223372036854775807 < Y.size + 1 + Z.size := by omega
        clear hbad hyes hq
        go_wp2_with fail
        refine (hr _).mono ?_
        rintro e w1 ⟨rfl, hw1⟩
        have hb1 := hbr.trans (hw1.mono hbz)
        obtain ⟨x0, x1, x2⟩ := hY0.out w1 hb1
        clear hr hw1 y0 y1 y2
        go_wp2_with fail
        go_quiet (fail)
        have hb2 := below_drewN hb1 nq
        generalize w1.drewN nq = wq at hb2 ⊢
        obtain ⟨y0, y1, y2⟩ := hY0.out wq hb2
        have Bq := Lib.hid hb2
        clear hb1 hb2 x0 x1 x2 hbr k1 k2 hT
        by_cases hnm : f.1 = []
        · have hem : X.toList.isEmpty = true := by rw [← HX.out, text_empty, hnm]; rfl
          have HU : Hid (textQ (addrTextA f) = T) := Lib.hid (by
            unfold addrTextA
            rw [if_pos hnm, HT.out])
          clear HT HX HY HZ hnm
          obtain ⟨U, rfl⟩ : ∃ U, U = T := ⟨_, rfl⟩
          have hU2 : U.size ≤ 400 := by
            have e : U.size = (addrTextA f).length := by rw [← HU.out]; rfl
            rw [e]
            have := addr_text_len f
            omega
          by_cases hi0 : i < 1
          · obtain ⟨S2, hS2⟩ : ∃ S2, S ++ U = S2 := ⟨_, rfl⟩
            have Hn : Hid (textQ (listTextA (l.take (i + 1))) = S2) := Lib.hid (by
              rw [Htk.out, list_text_snoc, ← hS2, ← HS.out, ← HU.out, if_pos (by
                have : i = 0 := by omega
                rw [this, List.take_zero]), List.nil_append, text_append])
            have kf1 : ¬ 9223372036854775807 < S.size + U.size := by omega
            have hs2 : S2.size ≤ 500 * (i + 1) := by
              have e : S2.size = (listTextA (l.take (i + 1))).length := by rw [← Hn.out]; rfl
              have := list_len2 (l.take (i + 1)) (fun f hf => Hr2.out f hf)
              rw [List.length_take] at this
              omega
            clear HS HU hU2 Htk Hr2
            go_wp2
            go_roundw
            case rel => exact ⟨i + 1, S2, by omega, by go_num, by first | rfl | rw [hS2], Hn, hs2, Hr3, Bq.out⟩
            case measure => simp [intOf]; omega
          · have hi1 : 0 < i := by omega
            obtain ⟨S2, hS2⟩ : ∃ S2, S ++ (⟨#[44, 32]⟩ : ByteArray) ++ U = S2 := ⟨_, rfl⟩
            have Hn : Hid (textQ (listTextA (l.take (i + 1))) = S2) := Lib.hid (by
              rw [Htk.out, list_text_snoc, ← hS2, ← HS.out, ← HU.out, if_neg (by
                intro e
                have e2 := congrArg List.length e
                rw [List.length_take, Hn0.out] at e2
                simp at e2
                omega), ← text_append, ← text_append, ByteArray.append_assoc]
              rfl)
            have kf1 : ¬ 9223372036854775807 < S.size + 2 := by omega
            have kf2 : ¬ 9223372036854775807 < S.size + 2 + U.size := by omega
            have hs2 : S2.size ≤ 500 * (i + 1) := by
              have e : S2.size = (listTextA (l.take (i + 1))).length := by rw [← Hn.out]; rfl
              have := list_len2 (l.take (i + 1)) (fun f hf => Hr2.out f hf)
              rw [List.length_take] at this
              omega
            clear HS HU hU2 Htk Hr2 hi0
            go_wp2
            go_roundw
            case rel => exact ⟨i + 1, S2, by omega, by go_num, by first | rfl | rw [hS2], Hn, hs2, Hr3, Bq.out⟩
            case measure => simp [intOf]; omega
        · have hem : X.toList.isEmpty = false := by
            rw [← HX.out, text_empty]
            cases hx : f.1 with
            | nil => exact absurd hx hnm
            | cons _ _ => rfl
          have hpl := r11plain_any X wq (by omega)
          rw [show X.data.toList = f.1 by rw [← HX.out]; rfl] at hpl
          cases hj : joinedA 32 atomC f.1 with
          | true =>
            rw [hj] at hpl
            obtain ⟨U, hU⟩ : ∃ U, X ++ (⟨#[32, 60]⟩ : ByteArray) ++ T ++ (⟨#[62]⟩ : ByteArray) = U := ⟨_, rfl⟩
            have HU : Hid (textQ (addrTextA f) = U) := Lib.hid (by
              unfold addrTextA nameTextA
              rw [if_neg hnm, if_pos hj, ← hU, ← HX.out, ← HT.out, ← text_append, ← text_append, ← text_append, ByteArray.append_assoc, ByteArray.append_assoc, ByteArray.append_assoc]
              rfl)
            have kn1 : ¬ 9223372036854775807 < X.size + 2 := by omega
            have kn2 : ¬ 9223372036854775807 < X.size + 2 + T.size := by omega
            have kn3 : ¬ 9223372036854775807 < X.size + 2 + T.size + 1 := by omega
            clear HT HX HY HZ hnm hj
            go_wp2_with fail
            refine hpl.mono ?_
            rintro e w9 ⟨rfl, h9⟩
            obtain rfl := h9.symm
            clear h9 hpl
            have hU2 : U.size ≤ 400 := by
              have e : U.size = (addrTextA f).length := by rw [← HU.out]; rfl
              rw [e]
              have := addr_text_len f
              omega
            by_cases hi0 : i < 1
            · obtain ⟨S2, hS2⟩ : ∃ S2, S ++ U = S2 := ⟨_, rfl⟩
              have Hn : Hid (textQ (listTextA (l.take (i + 1))) = S2) := Lib.hid (by
                rw [Htk.out, list_text_snoc, ← hS2, ← HS.out, ← HU.out, if_pos (by
                  have : i = 0 := by omega
                  rw [this, List.take_zero]), List.nil_append, text_append])
              have kf1 : ¬ 9223372036854775807 < S.size + U.size := by omega
              have hs2 : S2.size ≤ 500 * (i + 1) := by
                have e : S2.size = (listTextA (l.take (i + 1))).length := by rw [← Hn.out]; rfl
                have := list_len2 (l.take (i + 1)) (fun f hf => Hr2.out f hf)
                rw [List.length_take] at this
                omega
              clear HS HU hU2 Htk Hr2
              go_wp2
              go_roundw
              case rel => exact ⟨i + 1, S2, by omega, by go_num, by first | rfl | rw [hS2], Hn, hs2, Hr3, Bq.out⟩
              case measure => simp [intOf]; omega
            · have hi1 : 0 < i := by omega
              obtain ⟨S2, hS2⟩ : ∃ S2, S ++ (⟨#[44, 32]⟩ : ByteArray) ++ U = S2 := ⟨_, rfl⟩
              have Hn : Hid (textQ (listTextA (l.take (i + 1))) = S2) := Lib.hid (by
                rw [Htk.out, list_text_snoc, ← hS2, ← HS.out, ← HU.out, if_neg (by
                  intro e
                  have e2 := congrArg List.length e
                  rw [List.length_take, Hn0.out] at e2
                  simp at e2
                  omega), ← text_append, ← text_append, ByteArray.append_assoc]
                rfl)
              have kf1 : ¬ 9223372036854775807 < S.size + 2 := by omega
              have kf2 : ¬ 9223372036854775807 < S.size + 2 + U.size := by omega
              have hs2 : S2.size ≤ 500 * (i + 1) := by
                have e : S2.size = (listTextA (l.take (i + 1))).length := by rw [← Hn.out]; rfl
                have := list_len2 (l.take (i + 1)) (fun f hf => Hr2.out f hf)
                rw [List.length_take] at this
                omega
              clear HS HU hU2 Htk Hr2 hi0
              go_wp2
              go_roundw
              case rel => exact ⟨i + 1, S2, by omega, by go_num, by first | rfl | rw [hS2], Hn, hs2, Hr3, Bq.out⟩
              case measure => simp [intOf]; omega
          | false =>
            rw [hj] at hpl
            have hXl : f.1.length = X.size := by rw [← HX.out]; rfl
            have Hnt : Hid (nameTextA f.1 = quoteA f.1) := Lib.hid (by unfold nameTextA; rw [hj]; rfl)
            have Hnm := Lib.hid hnm
            have HXl := Lib.hid hXl
            clear hnm hj hXl
            go_wp2_with fail
            refine hpl.mono ?_
            rintro e w9 ⟨rfl, h9⟩
            obtain rfl := h9.symm
            clear h9 hpl
            go_wp2
            go_loop [8, 9] (fun qv kv => ∃ (k : Nat) (Q : ByteArray), k ≤ X.size ∧ kv = .int .i64 k ∧ qv = .string Q ∧ Hid (textQ (34 :: (f.1.take k).flatMap tellA) = Q) ∧ Q.size ≤ 1 + 2 * k) (fun _ kv => X.size - (intOf kv).toNat)
            case atStart => exact ⟨0, ⟨#[34]⟩, by omega, rfl, rfl, Lib.hid rfl, by decide⟩
            case round =>
              obtain ⟨k, Q, hk, rfl, rfl, HQ, hQs⟩ := hrel
              by_cases hkl : k < X.size
              · obtain ⟨P, hP⟩ : ∃ P, X.extract k (k + 1) = P := ⟨_, rfl⟩
                obtain ⟨c, hc⟩ : ∃ c, X[k] = c := ⟨_, rfl⟩
                have hkl2 : k < f.1.length := by rw [HXl.out]; exact hkl
                have hcf : f.1[k] = c := by
                  rw [← hc]
                  have e : X.data.toList = f.1 := by rw [← HX.out]; rfl
                  have e2 : X.data.toList[k]? = f.1[k]? := by rw [e]
                  rw [List.getElem?_eq_getElem (show k < X.data.toList.length from hkl), List.getElem?_eq_getElem hkl2] at e2
                  exact (Option.some.inj e2).symm
                have hPd : textQ [c] = P := by
                  rw [← hP, cut_text, show k + 1 - k = 1 by omega, cons_at X k hkl, hc]
                  rfl
                have hPs : P.size ≤ 1 := by rw [← hPd]; exact Nat.le_refl _
                have htk2 : f.1.take (k + 1) = f.1.take k ++ [c] := by rw [List.take_succ_eq_append_getElem hkl2, hcf]
                have wr1 : IntKind.i64.wrap ((k : Int) + 1) = (k : Int) + 1 := by rw [IntWalk.i64_in _ (by omega)]
                have c1 : (k : Int) + 1 ≤ (X.size : Int) := by omega
                have c2 : (k : Int) ≤ (k : Int) + 1 := by omega
                by_cases hsp : c = 34 ∨ c = 92
                · obtain ⟨Q2, hQ2⟩ : ∃ Q2, Q ++ (⟨#[92]⟩ : ByteArray) ++ P = Q2 := ⟨_, rfl⟩
                  have Hn : Hid (textQ (34 :: (f.1.take (k + 1)).flatMap tellA) = Q2) := Lib.hid (by
                    have ht : tellA c = [92] ++ [c] := by unfold tellA; rw [if_pos hsp]; rfl
                    rw [htk2, List.flatMap_append, List.flatMap_cons, List.flatMap_nil, List.append_nil, ht, ← hQ2, ← HQ.out, ← hPd, show (⟨#[92]⟩ : ByteArray) = textQ [92] from rfl, text_append, text_append]
                    simp)
                  have kq1 : ¬ 9223372036854775807 < Q.size + 1 := by omega
                  have kq2 : ¬ 9223372036854775807 < Q.size + 1 + P.size := by omega
                  have hQ2s : Q2.size ≤ 1 + 2 * (k + 1) := by
                    have e := congrArg ByteArray.size hQ2
                    rw [ByteArray.size_append, ByteArray.size_append] at e
                    have e1 : (⟨#[92]⟩ : ByteArray).size = 1 := rfl
                    omega
                  have f1 : ((X[k].toNat : Int) == 34) = true ∨ (((X[k].toNat : Int) == 34) = false ∧ ((X[k].toNat : Int) == 92) = true) := by
                    rw [hc]
                    rcases hsp with rfl | rfl
                    · exact .inl rfl
                    · exact .inr ⟨rfl, rfl⟩
                  clear hcf hPd hPs htk2 hsp HQ hkl2 hc
                  rcases f1 with f1 | ⟨f1, f2⟩
                  all_goals
                    go_wp2
                    go_round
                    case rel => exact ⟨k + 1, Q2, by omega, by go_num, rfl, Hn, hQ2s⟩
                    case measure => simp [intOf]; omega
                · obtain ⟨Q2, hQ2⟩ : ∃ Q2, Q ++ P = Q2 := ⟨_, rfl⟩
                  have Hn : Hid (textQ (34 :: (f.1.take (k + 1)).flatMap tellA) = Q2) := Lib.hid (by
                    have ht : tellA c = [c] := by unfold tellA; rw [if_neg hsp]
                    rw [htk2, List.flatMap_append, List.flatMap_cons, List.flatMap_nil, List.append_nil, ht, ← hQ2, ← HQ.out, ← hPd, text_append]
                    simp)
                  have kq2 : ¬ 9223372036854775807 < Q.size + P.size := by omega
                  have hQ2s : Q2.size ≤ 1 + 2 * (k + 1) := by
                    have e := congrArg ByteArray.size hQ2
                    rw [ByteArray.size_append] at e
                    omega
                  have f1 : ((X[k].toNat : Int) == 34) = false := by
                    rw [hc, beq_eq_false_iff_ne]
                    exact fun e => hsp (.inl (UInt8.toNat_inj.1 (by show c.toNat = 34; omega)))
                  have f2 : ((X[k].toNat : Int) == 92) = false := by
                    rw [hc, beq_eq_false_iff_ne]
                    exact fun e => hsp (.inr (UInt8.toNat_inj.1 (by show c.toNat = 92; omega)))
                  clear hcf hPd hPs htk2 hsp HQ hkl2 hc
                  go_wp2
                  go_round
                  case rel => exact ⟨k + 1, Q2, by omega, by go_num, rfl, Hn, hQ2s⟩
                  case measure => simp [intOf]; omega
              · have hkx : k = X.size := by omega
                have hQe : textQ (34 :: f.1.flatMap tellA) = Q := by
                  rw [← HQ.out, List.take_of_length_le (by rw [HXl.out]; omega)]
                obtain ⟨U, hU⟩ : ∃ U, Q ++ (⟨#[34]⟩ : ByteArray) ++ (⟨#[32, 60]⟩ : ByteArray) ++ T ++ (⟨#[62]⟩ : ByteArray) = U := ⟨_, rfl⟩
                have HU : Hid (textQ (addrTextA f) = U) := Lib.hid (by
                  unfold addrTextA
                  rw [if_neg Hnm.out, Hnt.out, ← hU, ← hQe, ← HT.out, show (⟨#[34]⟩ : ByteArray) = textQ [34] from rfl, show (⟨#[32, 60]⟩ : ByteArray) = textQ [32, 60] from rfl, show (⟨#[62]⟩ : ByteArray) = textQ [62] from rfl, text_append, text_append, text_append, text_append]
                  unfold quoteA
                  simp)
                have kn0 : ¬ 9223372036854775807 < Q.size + 1 := by omega
                have kn1 : ¬ 9223372036854775807 < Q.size + 1 + 2 := by omega
                have kn2 : ¬ 9223372036854775807 < Q.size + 1 + 2 + T.size := by omega
                have kn3 : ¬ 9223372036854775807 < Q.size + 1 + 2 + T.size + 1 := by omega
                clear hkx hQe HQ HT HX HY HZ Hnt Hnm HXl
                have hU2 : U.size ≤ 400 := by
                  have e : U.size = (addrTextA f).length := by rw [← HU.out]; rfl
                  rw [e]
                  have := addr_text_len f
                  omega
                by_cases hi0 : i < 1
                · obtain ⟨S2, hS2⟩ : ∃ S2, S ++ U = S2 := ⟨_, rfl⟩
                  have Hn : Hid (textQ (listTextA (l.take (i + 1))) = S2) := Lib.hid (by
                    rw [Htk.out, list_text_snoc, ← hS2, ← HS.out, ← HU.out, if_pos (by
                      have : i = 0 := by omega
                      rw [this, List.take_zero]), List.nil_append, text_append])
                  have kf1 : ¬ 9223372036854775807 < S.size + U.size := by omega
                  have hs2 : S2.size ≤ 500 * (i + 1) := by
                    have e : S2.size = (listTextA (l.take (i + 1))).length := by rw [← Hn.out]; rfl
                    have := list_len2 (l.take (i + 1)) (fun f hf => Hr2.out f hf)
                    rw [List.length_take] at this
                    omega
                  clear HS HU hU2 Htk Hr2
                  go_wp2
                  go_roundw
                  case rel => exact ⟨i + 1, S2, by omega, by go_num, by first | rfl | rw [hS2], Hn, hs2, Hr3, Bq.out⟩
                  case measure => simp [intOf]; omega
                · have hi1 : 0 < i := by omega
                  obtain ⟨S2, hS2⟩ : ∃ S2, S ++ (⟨#[44, 32]⟩ : ByteArray) ++ U = S2 := ⟨_, rfl⟩
                  have Hn : Hid (textQ (listTextA (l.take (i + 1))) = S2) := Lib.hid (by
                    rw [Htk.out, list_text_snoc, ← hS2, ← HS.out, ← HU.out, if_neg (by
                      intro e
                      have e2 := congrArg List.length e
                      rw [List.length_take, Hn0.out] at e2
                      simp at e2
                      omega), ← text_append, ← text_append, ByteArray.append_assoc]
                    rfl)
                  have kf1 : ¬ 9223372036854775807 < S.size + 2 := by omega
                  have kf2 : ¬ 9223372036854775807 < S.size + 2 + U.size := by omega
                  have hs2 : S2.size ≤ 500 * (i + 1) := by
                    have e : S2.size = (listTextA (l.take (i + 1))).length := by rw [← Hn.out]; rfl
                    have := list_len2 (l.take (i + 1)) (fun f hf => Hr2.out f hf)
                    rw [List.length_take] at this
                    omega
                  clear HS HU hU2 Htk Hr2 hi0
                  go_wp2
                  go_roundw
                  case rel => exact ⟨i + 1, S2, by omega, by go_num, by first | rfl | rw [hS2], Hn, hs2, Hr3, Bq.out⟩
                  case measure => simp [intOf]; omega
    · obtain rfl : i = n := by omega
      rw [List.take_of_length_le (by rw [Hn0.out]; exact Nat.le_refl _)] at HS
      have hall : l.all rightA = true := List.all_eq_true.2 fun f hf => by
        obtain ⟨j, hj, rfl⟩ := List.mem_iff_getElem.1 hf
        exact hg.out j hj (by rw [← Hn0.out]; exact hj)
      by_cases h0 : i < 1
      · have hl0 : l = [] := List.eq_nil_of_length_eq_zero (by rw [Hn0.out]; omega)
        have f0 : ((i : Int) == 0) = true := by rw [beq_iff_eq]; omega
        have HR : Hid (PV = .tuple #[.string ⟨#[]⟩, .int .i64 2]) := Lib.hid (by rw [← HPV.out, hl0]; rfl)
        clear hg hall HS hl0
        go_wp2
        go_ret2
        exact ⟨by rw [HR.out]; rfl, hbr⟩
      · have f0 : ((i : Int) == 0) = false := by rw [beq_eq_false_iff_ne]; omega
        by_cases h64 : 64 < i
        · have HR : Hid (PV = .tuple #[.string ⟨#[]⟩, .int .i64 3]) := Lib.hid (by rw [← HPV.out]; exact print_many hall (by rw [Hn0.out]; exact h64))
          clear hg hall HS h0
          go_wp2
          go_ret2
          exact ⟨by rw [HR.out]; rfl, hbr⟩
        · have HR : Hid (PV = .tuple #[.string S, .int .i64 0]) := Lib.hid (by
            rw [← HPV.out, print_good hall (fun e => h0 (by rw [← Hn0.out, e]; simp)) (by rw [Hn0.out]; omega), HS.out])
          clear hg hall HS h0
          go_wp2
          go_ret2
          exact ⟨by rw [HR.out]; rfl, hbr⟩
end Go.Proofs.YtemkikpdmihmpaaDoor
