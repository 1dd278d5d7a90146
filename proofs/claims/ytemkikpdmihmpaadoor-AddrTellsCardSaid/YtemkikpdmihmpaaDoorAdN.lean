/-
  What addr.allRight and Print come to.
-/
import Derived.Test.YtemkikpdmihmpaaDoorAdM
namespace Go.Proofs.YtemkikpdmihmpaaDoor
open Go.RowKit

set_option maxRecDepth 100000 in
set_option maxHeartbeats 4000000 in
theorem aallr_any (B : Nat) (v : Value) (l : List AddrA) (w : World) (h : AddrsAt w B v l) (hB : B ≤ w.heap.size) :
    Calls Tryd.prog 17 #[v] w fun e w' => e = .returned (.bool (l.all rightA)) ∧ Below w.heap.size w w' := by
  obtain ⟨ao, cap, rfl, hc1, hc2, hat⟩ := h
  have Hat := Lib.hid hat
  obtain ⟨n, hnl⟩ : ∃ n, l.length = n := ⟨_, rfl⟩
  have Hn := Lib.hid hnl
  unfold maxLen at hc2
  rw [hnl] at hc1 ⊢
  clear hat hnl
  go_enter Tryd.func17, Tryd.ntmps17
  go_wp2
  go_loopw [7] (fun iv wr => ∃ i : Nat, i ≤ n ∧ iv = .int .i64 i ∧ Hid (∀ j (hj : j < l.length), j < i → rightA l[j] = true) ∧ Below w.heap.size w wr) (fun iv _ => n - (intOf iv).toNat)
  case atStart => exact ⟨0, by omega, rfl, Lib.hid (fun j _ h => by omega), Below.refl _ _⟩
  case round =>
    obtain ⟨i, hi, rfl, hg, hbr⟩ := hrel
    by_cases hlt : i < n
    · have hil : i < l.length := by rw [Hn.out]; exact hlt
      obtain ⟨g, off, rfl, hgB, z0, z1, z2⟩ := Hat.out i hil
      have hbad : Hid (rightA l[i] = false → l.all rightA = false) := Lib.hid fun h => List.all_eq_false.2 ⟨l[i], List.getElem_mem hil, by rw [h]; simp⟩
      have hyes : Hid (rightA l[i] = true → ∀ j (hj : j < l.length), j < i + 1 → rightA l[j] = true) := Lib.hid fun h j hj h3 => by
        rcases Nat.lt_or_ge j i with h4 | h4
        · exact hg.out j hj h4
        · obtain rfl : j = i := by omega
          exact h
      have hr := fun W => aright_any l[i] W
      obtain ⟨f, hf⟩ : ∃ f, l[i] = f := ⟨_, rfl⟩
      rw [hf] at z0 z1 z2 hbad hyes
      simp only [hf] at hr
      unfold addrV at hr
      obtain ⟨X, hX⟩ : ∃ X, textQ f.1 = X := ⟨_, rfl⟩
      obtain ⟨Y, hY⟩ : ∃ Y, textQ f.2.1 = Y := ⟨_, rfl⟩
      obtain ⟨Z, hZ⟩ : ∃ Z, textQ f.2.2 = Z := ⟨_, rfl⟩
      rw [hX] at z0
      rw [hY] at z1
      rw [hZ] at z2
      simp only [hX, hY, hZ] at hr
      have y0 := (hbr.cell (p := ⟨g, off + i * 3, none⟩) (by show g < w.heap.size; omega)).trans z0
      have y1 := (hbr.cell (p := ⟨g, off + i * 3 + 1, none⟩) (by show g < w.heap.size; omega)).trans z1
      have y2 := (hbr.cell (p := ⟨g, off + i * 3 + 2, none⟩) (by show g < w.heap.size; omega)).trans z2
      have hgr : g < wr.heap.size := by have := hbr.size; omega
      have hbz := hbr.size
      clear z0 z1 z2 hX hY hZ hg hil hf
      cases hq : rightA f with
      | false =>
        rw [hq] at hr
        have Hr := Lib.hid (hbad.out hq)
        clear hbad hyes hq
        go_wp2_with (go_at_call 14; refine (hr _).mono ?_; rintro e w1 ⟨rfl, hw1⟩)
        have hb1 := (hbr.alloc hbz _).trans (hw1.mono (by simp; omega))
        go_ret
        exact ⟨by rw [Hr.out]; rfl, hb1⟩
      | true =>
        rw [hq] at hr
        have Hr := Lib.hid (hyes.out hq)
        clear hbad hyes hq
        go_wp2_with (go_at_call 14; refine (hr _).mono ?_; rintro e w1 ⟨rfl, hw1⟩)
        have hb1 := (hbr.alloc hbz _).trans (hw1.mono (by simp; omega))
        go_roundw
        case rel => exact ⟨i + 1, by omega, by go_num, Hr, hb1⟩
        case measure => simp [intOf]; omega
    · obtain rfl : i = n := by omega
      have hall : l.all rightA = true := List.all_eq_true.2 fun f hf => by
        obtain ⟨j, hj, rfl⟩ := List.mem_iff_getElem.1 hf
        exact hg.out j hj (by rw [← Hn.out]; exact hj)
      have Hall := Lib.hid hall
      clear hall hg
      go_wp2
      go_ret
      exact ⟨by rw [Hall.out]; rfl, hbr⟩
/-- What printing comes to. -/
def printV11 (l : List AddrA) : Value := .tuple #[.string (textQ (printA l).1), .int .i64 (printA l).2]
theorem print_none : printV11 [] = .tuple #[.string ⟨#[]⟩, .int .i64 2] := rfl
theorem print_bad {l : List AddrA} (h : l.all rightA = false) : printV11 l = .tuple #[.string ⟨#[]⟩, .int .i64 2] := by
  unfold printV11 printA
  rw [if_pos (.inr h)]
  rfl
theorem print_many {l : List AddrA} (h : l.all rightA = true) (h64 : 64 < l.length) : printV11 l = .tuple #[.string ⟨#[]⟩, .int .i64 3] := by
  unfold printV11 printA
  rw [if_neg (by rw [h]; rintro (rfl | h) <;> simp at *), if_pos h64]
  rfl
theorem print_good {l : List AddrA} (h : l.all rightA = true) (h0 : l ≠ []) (h64 : l.length ≤ 64) : printV11 l = .tuple #[.string (textQ (listTextA l)), .int .i64 0] := by
  unfold printV11 printA
  rw [if_neg (by rw [h]; simp [h0]), if_neg (by omega)]
  rfl
/-- What stands ahead of an address in a list. -/
def btwA (k : Nat) : ByteArray := textQ (if k = 0 then [] else [44, 32])
theorem list_len : ∀ l : List AddrA, (∀ a ∈ l, rightA a = true) → (moreTextA l).length ≤ 300 * l.length
  | [], _ => by simp [moreTextA]
  | a :: l, h => by
    have ih := list_len l (fun b hb => h b (List.mem_cons_of_mem _ hb))
    obtain ⟨m1, m2, m3⟩ := right_len (h a (List.mem_cons_self ..))
    have h1 := addr_text_len a
    unfold moreTextA at ih ⊢
    rw [List.flatMap_cons, List.length_append, List.length_append, List.length_cons]
    simp only [List.length_cons, List.length_nil]
    omega
theorem list_len2 (l : List AddrA) (h : ∀ a ∈ l, rightA a = true) : (listTextA l).length ≤ 300 * l.length := by
  cases l with
  | nil => simp [listTextA]
  | cons a l =>
    have ih := list_len l (fun b hb => h b (List.mem_cons_of_mem _ hb))
    obtain ⟨m1, m2, m3⟩ := right_len (h a (List.mem_cons_self ..))
    have h1 := addr_text_len a
    show (addrTextA a ++ moreTextA l).length ≤ _
    rw [List.length_append, List.length_cons]
    omega

set_option maxRecDepth 100000 in
set_option maxHeartbeats 8000000 in
theorem aprint_any (B : Nat) (v : Value) (l : List AddrA) (w : World) (h : AddrsAt w B v l) (hB : B ≤ w.heap.size) :
    Calls Tryd.prog 7 #[v] w fun e w' => e = .returned (printV11 l) ∧ Below w.heap.size w w' := by
  have har := aallr_any B v l w h hB
  obtain ⟨ao, cap, rfl, hc1, hc2, hat⟩ := h
  have Hat := Lib.hid hat
  obtain ⟨n, hnl⟩ : ∃ n, l.length = n := ⟨_, rfl⟩
  unfold maxLen at hc2
  rw [hnl] at hc1 har ⊢
  have Hn := Lib.hid hnl
  clear hat
  by_cases h0 : n = 0
  · subst h0
    have hl0 : l = [] := List.eq_nil_of_length_eq_zero hnl
    rw [hl0, print_none]
    clear hnl hl0 har
    go_enter Tryd.func7, Tryd.ntmps7
    go_wp2
    go_ret2
    exact ⟨rfl, Below.refl _ _⟩
  · have hn0 : ((n : Int) == 0) = false := by rw [beq_eq_false_iff_ne]; omega
    have hne : l ≠ [] := fun e => h0 (by rw [← hnl, e]; rfl)
    have Hne := Lib.hid hne
    clear hnl hne h0
    cases hq : l.all rightA with
    | false =>
      rw [hq] at har
      rw [print_bad hq]
      clear hq
      go_enter Tryd.func7, Tryd.ntmps7
      go_wp2_with (go_at_call 17; refine har.mono ?_; rintro e w1 ⟨rfl, hw1⟩)
      go_ret2
      exact ⟨rfl, hw1⟩
    | true =>
      rw [hq] at har
      by_cases h64 : 64 < n
      · rw [print_many hq (by rw [Hn.out]; exact h64)]
        clear hq
        go_enter Tryd.func7, Tryd.ntmps7
        go_wp2_with (go_at_call 17; refine har.mono ?_; rintro e w1 ⟨rfl, hw1⟩)
        go_ret2
        exact ⟨rfl, hw1⟩
      · have Hr := Lib.hid (print_good hq Hne.out (by rw [Hn.out]; omega))
        have Hall := Lib.hid (fun a (ha : a ∈ l) => List.all_eq_true.1 hq a ha)
        obtain ⟨PV, hPV⟩ : ∃ PV, printV11 l = PV := ⟨_, rfl⟩
        rw [hPV] at Hr ⊢
        clear hq hPV
        go_enter Tryd.func7, Tryd.ntmps7
        go_wp2_with fail
        refine har.mono ?_
        rintro e w1 ⟨rfl, hw1⟩
        have z1 := hw1.size
        have hbd := Lib.fresh_isBuilder 51 5 w1
        have hb1 := (Below.refl w1.heap.size w1).alloc (Nat.le_refl _) (.cells #[.pointer none, .slice none 0 0] 51)
        clear har
        go_wp2
        go_loopw [5, 21] (fun sv iv wx => ∃ k : Nat, k ≤ n ∧ iv = .int .i64 k ∧ sv = .string (btwA k) ∧ Lib.IsBuilder 51 5 w1.heap.size w1.heap.size (Lib.byteCells (listTextA (l.take k))) wx ∧ Below w1.heap.size w1 wx ∧ w1.heap.size < wx.heap.size) (fun _ iv _ => n - (intOf iv).toNat)
        case atStart => exact ⟨0, by omega, rfl, rfl, hbd, hb1, by simp⟩
        case round =>
          obtain ⟨k, hk, rfl, rfl, hbk, hbw, hzw⟩ := hrel
          have hbw0 := hw1.trans (hbw.mono z1)
          by_cases hlk : k < n
          · have hil : k < l.length := by rw [Hn.out]; exact hlk
            obtain ⟨g, off, rfl, hgB, y0, y1, y2⟩ := Hat.out k hil
            obtain ⟨m1, m2, m3⟩ := right_len (Hall.out _ (List.getElem_mem hil))
            have htk : l.take (k + 1) = l.take k ++ [l[k]] := by rw [List.take_succ_eq_append_getElem hil]
            have hhl := list_len2 (l.take k) (fun f hf => Hall.out f (List.mem_of_mem_take hf))
            rw [List.length_take, Hn.out] at hhl
            obtain ⟨S, hS⟩ : ∃ S, btwA k = S := ⟨_, rfl⟩
            have hSd : S.data.toList = if l.take k = [] then [] else [44, 32] := by
              rw [← hS]
              by_cases hk0 : k = 0
              · subst hk0
                rfl
              · unfold btwA
                rw [if_neg hk0, if_neg (fun e => by
                  have := congrArg List.length e
                  rw [List.length_take, Hn.out] at this
                  simp at this
                  omega)]
                rfl
            have hSl : S.size ≤ 2 := by
              have e : S.size = S.data.toList.length := rfl
              rw [e, hSd]
              split <;> simp
            have htext := list_text_snoc (l.take k) l[k]
            rw [← htk, ← hSd, ← List.append_assoc] at htext
            obtain ⟨f, hf⟩ : ∃ f, l[k] = f := ⟨_, rfl⟩
            rw [hf] at y0 y1 y2 m1 m2 m3 htext
            obtain ⟨acc, hacc⟩ : ∃ acc, listTextA (l.take k) = acc := ⟨_, rfl⟩
            rw [hacc] at hbk htext hhl
            obtain ⟨X, hX⟩ : ∃ X, textQ f.1 = X := ⟨_, rfl⟩
            obtain ⟨Y, hY⟩ : ∃ Y, textQ f.2.1 = Y := ⟨_, rfl⟩
            obtain ⟨Z, hZ⟩ : ∃ Z, textQ f.2.2 = Z := ⟨_, rfl⟩
            rw [hX] at y0
            rw [hY] at y1
            rw [hZ] at y2
            have v0 := (hbw0.cell (p := ⟨g, off + k * 3, none⟩) (by show g < w.heap.size; omega)).trans y0
            have v1 := (hbw0.cell (p := ⟨g, off + k * 3 + 1, none⟩) (by show g < w.heap.size; omega)).trans y1
            have v2 := (hbw0.cell (p := ⟨g, off + k * 3 + 2, none⟩) (by show g < w.heap.size; omega)).trans y2
            have hgr : g < wr.heap.size := by have := hbw0.size; omega
            have hS2 := hS
            obtain ⟨wa, hwa⟩ : ∃ wa, wr.alloc (.cells #[.string X, .string Y, .string Z] 37) = wa := ⟨_, rfl⟩
            have la : Below wr.heap.size wr wa := by rw [← hwa]; exact (Below.refl _ _).alloc (Nat.le_refl _) _
            have la2 := la
            have na : AddrAt wa wr.heap.size X Y Z := by rw [← hwa]; exact addr_new wr _ _ _
            have hba := isbuilder_below hbk la
            have bwa := hbw.trans (la.mono (by omega))
            have hw := bwrite_kA w1.heap.size w1.heap.size (Lib.byteCells acc) S wa hba (by rw [Lib.byteCells_length]; omega) (by have := bwa.size; omega)
            rw [show Lib.byteCells acc ++ Lib.strCells S = Lib.byteCells (acc ++ S.data.toList) by rw [Lib.byteCells_append]; rfl] at hw
            have hlay : Hid (∀ W, (Lib.BuilderAt 51 5 w1.heap.size w1.heap.size (.pointer (some ⟨w1.heap.size, 0, none⟩)) (Lib.byteCells (acc ++ S.data.toList)) W ∧ w1.heap.size ≤ W.heap.size) → Calls Tryd.prog 19 #[.pointer (some ⟨w1.heap.size, 0, none⟩), .agg #[.string X, .string Y, .string Z]] W fun e w' => e = .returned (.tuple #[]) ∧ Lib.BuilderAt 51 5 w1.heap.size w1.heap.size (.pointer (some ⟨w1.heap.size, 0, none⟩)) (Lib.byteCells (listTextA (l.take (k + 1)))) w' ∧ Below w1.heap.size W w') := Lib.hid fun W hW => by
              have := alaya_any w1.heap.size w1.heap.size (acc ++ S.data.toList) f W (.inr hW.1) hW.2 (by
                have e : S.data.toList.length = S.size := rfl
                rw [List.length_append, e]
                omega) (by omega) (by omega) (by omega)
              unfold addrV at this
              rw [hX, hY, hZ, ← htext] at this
              exact this
            obtain ⟨u0, u1, u2, u3, u4, u5⟩ := na.cells
            have Na := Lib.hid na
            have Ba := Lib.hid bwa
            clear y0 y1 y2 hX hY hZ hil hf hbk htk hhl hacc htext m1 m2 m3 hSd hSl hS la na hba bwa hbw
            go_wp2_with fail
            refine hw.mono ?_
            rintro e w2 ⟨rfl, q1, q2, q3, q4⟩
            have hl2 := hlay.out w2 ⟨q1, by have := Ba.out.size; omega⟩
            have n2 : AddrAt w2 wr.heap.size X Y Z := q3 _ _ Na.out (by intro e; injection e with e; omega) (fun x fz e => by cases e)
            obtain ⟨x0, x1, x2, x3, x4, x5⟩ := n2.cells
            have B2 := Lib.hid (Ba.out.trans q2)
            have z2 : w1.heap.size < w2.heap.size := by
              have := la2.size
              omega
            clear hw hlay n2 q1 q2 q3 q4 Ba Na
            go_wp2_with fail
            refine hl2.mono ?_
            rintro e w3 ⟨rfl, q1, q2⟩
            have b3 := B2.out.trans q2
            have z3 : w1.heap.size < w3.heap.size := q1.lt
            have Q1 := Lib.hid q1
            clear hl2 q1 q2
            go_wp2
            go_roundw
            case rel => exact ⟨k + 1, by omega, by go_num, rfl, .inr Q1.out, b3, z3⟩
            case measure => simp [intOf]; omega
          · obtain rfl : k = n := by omega
            have hhl := list_len2 l (fun f hf => Hall.out f hf)
            rw [List.take_of_length_le (by rw [Hn.out]; exact Nat.le_refl _)] at hbk
            rw [Hn.out] at hhl
            have hstr := Tryd.Builder_String_any w1.heap.size w1.heap.size (listTextA l) wr hbk (by omega)
            obtain ⟨T, hT⟩ : ∃ T, textQ (listTextA l) = T := ⟨_, rfl⟩
            have hstr2 : Calls Tryd.prog 20 #[.pointer (some ⟨w1.heap.size, 0, none⟩)] wr fun e w' => e = .returned (.string T) ∧ Below w1.heap.size wr w' := hstr.mono fun e w' ⟨h, hb⟩ => ⟨by rw [h, ← hT]; rfl, hb⟩
            have HR := Lib.hid (by rw [Hr.out, hT] : PV = .tuple #[.string T, .int .i64 0])
            clear hbk hhl hstr hT Hr
            go_wp2_with fail
            refine hstr2.mono ?_
            rintro e w3 ⟨rfl, hw3⟩
            have b3 := hw1.trans ((hbw.trans hw3).mono z1)
            clear hstr2 hw3 hbw
            go_wp2
            go_ret2
            exact ⟨by rw [HR.out]; rfl, b3⟩
end Go.Proofs.YtemkikpdmihmpaaDoor
