/-
  What addr's teller, layName and layAddress come to.
-/
import Derived.Test.YtemkikpdmihmpaaDoorAdL
namespace Go.Proofs.YtemkikpdmihmpaaDoor
open Go.RowKit

theorem ateller_any (b : Nat) (w : World) : Calls Tryd.prog 48 #[.pointer (some ⟨b, 0, none⟩)] w fun e w' => e = .returned (.func (.func 65) #[] #[.pointer (some ⟨w.heap.size, 0, none⟩)]) ∧ w' = w.alloc (.cells #[.pointer (some ⟨b, 0, none⟩)] 48) := by
  have hmf : ∀ (fn : Fn) (first cap : Array Value) (w : World), (Instr.makeFunc fn first cap).run Tryd.prog w = .ok (.func fn first cap) w := fun _ _ _ _ => rfl
  go_enter Tryd.func48, Tryd.ntmps48
  go_wp2
  go_ret
  exact ⟨rfl, rfl⟩
/-- What teller's closure holds: the builder, and its box. -/
structure TellP (B b C : Nat) (acc : TextA) (W : World) : Prop where
  bd : Lib.BuilderAt 51 5 B b (.pointer (some ⟨b, 0, none⟩)) (Lib.byteCells acc) W
  xc : Boxed W C 48 (.pointer (some ⟨b, 0, none⟩))
  hB : B ≤ W.heap.size
theorem TellP.next {B b C : Nat} {acc acc2 : TextA} {W W' : World} (h : TellP B b C acc W) (q1 : Lib.BuilderAt 51 5 B b (.pointer (some ⟨b, 0, none⟩)) (Lib.byteCells acc2) W') (q3 : Lib.OthersKept 5 (some b) W W') (q4 : W.heap.size ≤ W'.heap.size) : TellP B b C acc2 W' :=
  ⟨q1, kept_box q3 (by decide) (builder_ne h.bd h.xc) h.xc, Nat.le_trans h.hB q4⟩

set_option maxRecDepth 100000 in
set_option maxHeartbeats 4000000 in
theorem atell1_any (B b C : Nat) (acc : TextA) (c : UInt8) (w : World) (h : TellP B b C acc w) (hlen : acc.length ≤ 1000000000) :
    Calls Tryd.prog 65 #[.int .u8 (c.toNat : Int), .pointer (some ⟨C, 0, none⟩)] w fun e w' => e = .returned (.tuple #[]) ∧ TellP B b C (acc ++ tellA c) w' ∧ Below B w w' := by
  have c1 := h.xc.cell
  have H := Lib.hid h
  by_cases hq : c = 34 ∨ c = 92
  · have ht : tellA c = [92] ++ [c] := by
      unfold tellA
      rw [if_pos hq]
      rfl
    rw [ht, ← List.append_assoc]
    have hcall := wbyte_k B b acc 92 w (.inr h.bd) (by omega) h.hB
    have hstep : ∀ w1, (Lib.BuilderAt 51 5 B b (.pointer (some ⟨b, 0, none⟩)) (Lib.byteCells (acc ++ [92])) w1 ∧ Below B w w1 ∧ Lib.OthersKept 5 (some b) w w1 ∧ w.heap.size ≤ w1.heap.size) → TellP B b C (acc ++ [92]) w1 ∧ Below B w w1 := fun w1 ⟨q1, q2, q3, q4⟩ => ⟨h.next q1 q3 q4, q2⟩
    have HS := Lib.hid hstep
    have f1 : (((c.toNat : Int) == 34) = true) ∨ (((c.toNat : Int) == 34) = false ∧ ((c.toNat : Int) == 92) = true) := by
      rcases hq with rfl | rfl
      · exact .inl rfl
      · exact .inr ⟨rfl, rfl⟩
    clear h hstep hq ht
    rcases f1 with f1 | ⟨f1, f2⟩
    all_goals
      go_enter Tryd.func65, Tryd.ntmps65
      go_wp2_with fail
      refine hcall.mono ?_
      rintro e w1 ⟨rfl, hq⟩
      obtain ⟨p1, l1⟩ := HS.out _ hq
      have d1 := p1.xc.cell
      have hcall2 := wbyte_k B b (acc ++ [92]) c w1 (.inr p1.bd) (by simp; omega) p1.hB
      have P1 := Lib.hid p1
      have L1 := Lib.hid l1
      clear hcall hq p1 l1
      go_wp2_with fail
      refine hcall2.mono ?_
      rintro e w2 ⟨rfl, q1, q2, q3, q4⟩
      have F := Lib.hid (And.intro (P1.out.next q1 q3 q4) (L1.out.trans q2))
      clear hcall2 q1 q2 q3 q4
      go_wp2
      go_end0
      exact ⟨rfl, F.out⟩
  · have ht : tellA c = [c] := by
      unfold tellA
      rw [if_neg hq]
    rw [ht]
    have f1 : ((c.toNat : Int) == 34) = false := by
      rw [beq_eq_false_iff_ne]
      exact fun e => hq (.inl (UInt8.toNat_inj.1 (by show c.toNat = 34; omega)))
    have f2 : ((c.toNat : Int) == 92) = false := by
      rw [beq_eq_false_iff_ne]
      exact fun e => hq (.inr (UInt8.toNat_inj.1 (by show c.toNat = 92; omega)))
    have hcall2 := wbyte_k B b acc c w (.inr h.bd) (by omega) h.hB
    clear h hq ht
    go_enter Tryd.func65, Tryd.ntmps65
    go_wp2_with fail
    refine hcall2.mono ?_
    rintro e w2 ⟨rfl, q1, q2, q3, q4⟩
    have F := Lib.hid (And.intro (H.out.next q1 q3 q4) q2)
    clear hcall2 q1 q2 q3 q4
    go_wp2
    go_end0
    exact ⟨rfl, F.out⟩

set_option maxRecDepth 100000 in
set_option maxHeartbeats 4000000 in
theorem alayn_any (B b : Nat) (acc : TextA) (s : ByteArray) (w : World) (h : Lib.IsBuilder 51 5 B b (Lib.byteCells acc) w) (hBw : B ≤ w.heap.size) (hacc : acc.length ≤ 100000000) (hs : s.size ≤ 1000000) :
    Calls Tryd.prog 34 #[.pointer (some ⟨b, 0, none⟩), .string s] w fun e w' => e = .returned (.tuple #[]) ∧ Lib.BuilderAt 51 5 B b (.pointer (some ⟨b, 0, none⟩)) (Lib.byteCells (acc ++ nameTextA s.data.toList)) w' ∧ Below B w w' := by
  have hj := ajoined_any 29 enter_atom atomC ask_atom s 32 w (by omega)
  have hl : s.data.toList.length = s.size := rfl
  unfold nameTextA
  cases hq : joinedA 32 atomC s.data.toList with
  | true =>
    rw [hq] at hj
    rw [if_pos rfl]
    have hwr : Hid (∀ W, Below w.heap.size w W → Calls Tryd.prog 18 #[.pointer (some ⟨b, 0, none⟩), .string s] W fun e w' => e = .returned (.tuple #[.int .i64 s.size, .nilIface]) ∧ (Lib.BuilderAt 51 5 B b (.pointer (some ⟨b, 0, none⟩)) (Lib.byteCells (acc ++ s.data.toList)) w' ∧ Below B w w')) := Lib.hid fun W hW => by
      have := bwrite_any B b (Lib.byteCells acc) s W (isbuilder_below h hW) (by rw [Lib.byteCells_length]; omega) (by have := hW.size; omega)
      rw [show Lib.byteCells acc ++ Lib.strCells s = Lib.byteCells (acc ++ s.data.toList) by rw [Lib.byteCells_append]; rfl] at this
      refine this.mono ?_
      rintro e w' ⟨rfl, q1, q2⟩
      exact ⟨rfl, q1, (hW.mono hBw).trans q2⟩
    clear h hq
    go_enter Tryd.func34, Tryd.ntmps34
    go_wp2_with fail
    refine hj.mono ?_
    rintro e w1 ⟨rfl, hw1⟩
    have hw := hwr.out w1 hw1
    clear hj hw1 hwr
    go_wp2_with fail
    refine hw.mono ?_
    rintro e w2 ⟨rfl, F⟩
    have HF := Lib.hid F
    clear hw F
    go_wp2
    exact bodyPost_ret (results_none rfl _ _ _) rfl ⟨rfl, HF.out⟩
  | false =>
    rw [hq] at hj
    rw [if_neg (by simp)]
    have H := Lib.hid h
    clear h hq
    go_enter Tryd.func34, Tryd.ntmps34
    go_wp2_with fail
    refine hj.mono ?_
    rintro e w1 ⟨rfl, hw1⟩
    have h1 := isbuilder_below H.out hw1
    have ht := ateller_any b w1
    obtain ⟨w2, hw2⟩ : ∃ w2, w1.alloc (.cells #[.pointer (some ⟨b, 0, none⟩)] 48) = w2 := ⟨_, rfl⟩
    have l2 : Below w1.heap.size w1 w2 := by rw [← hw2]; exact (Below.refl _ _).alloc (Nat.le_refl _) _
    have x2 : Boxed w2 w1.heap.size 48 (.pointer (some ⟨b, 0, none⟩)) := by rw [← hw2]; exact Boxed.new _ _ _
    rw [hw2] at ht
    have h2 := isbuilder_below h1 l2
    have b2 : Below B w w2 := (hw1.mono hBw).trans (l2.mono (by have := hw1.size; omega))
    have n2 := isbuilder_ne h2 x2
    have hq2 := wbyte_k B b acc 34 w2 h2 (by omega) (by have := b2.size; omega)
    have X2 := Lib.hid x2
    have B2 := Lib.hid b2
    have N2 := Lib.hid n2
    clear hj hw1 h1 hw2 l2 x2 h2 b2 n2
    go_wp2_with fail
    refine ht.mono ?_
    rintro e wx ⟨rfl, h9⟩
    obtain rfl := h9.symm
    clear h9 ht
    go_wp2_with fail
    refine hq2.mono ?_
    rintro e w3 ⟨rfl, q1, q2, q3, q4⟩
    have T3 : Hid (TellP B b w1.heap.size (acc ++ [34]) w3) := Lib.hid ⟨q1, kept_box q3 (by decide) N2.out X2.out, Nat.le_trans (Nat.le_trans hBw B2.out.size) q4⟩
    have B3 := Lib.hid (B2.out.trans q2)
    obtain ⟨C, hC⟩ : ∃ C, w1.heap.size = C := ⟨_, rfl⟩
    rw [hC] at T3
    clear hq2 q1 q2 q3 q4 X2 B2 N2
    go_wp2
    clear hC
    go_loopw [17] (fun iv wr => ∃ i : Nat, i ≤ s.size ∧ iv = .int .i64 i ∧ Hid (TellP B b C (acc ++ [34] ++ (s.data.toList.take i).flatMap tellA) wr) ∧ Below B w wr) (fun iv _ => s.size - (intOf iv).toNat)
    case atStart => exact ⟨0, by omega, rfl, Lib.hid (by rw [List.take_zero, List.flatMap_nil, List.append_nil]; exact T3.out), B3.out⟩
    case round =>
      obtain ⟨i, hi, rfl, hp, hbr⟩ := hrel
      have hlen : (acc ++ [34] ++ (s.data.toList.take i).flatMap tellA).length ≤ 110000000 := by
        have := tells_len (s.data.toList.take i)
        rw [List.length_take] at this
        simp only [List.length_append, List.length_cons, List.length_nil]
        omega
      by_cases hlt : i < s.size
      · have hcall := atell1_any B b C _ s[i] wr hp.out (by omega)
        have htk : (s.data.toList.take (i + 1)) = s.data.toList.take i ++ [s[i]] := by
          rw [List.take_succ_eq_append_getElem (by rw [hl]; exact hlt)]
          rfl
        have hnx : acc ++ [34] ++ (s.data.toList.take i).flatMap tellA ++ tellA s[i] = acc ++ [34] ++ (s.data.toList.take (i + 1)).flatMap tellA := by
          rw [htk, List.flatMap_append, List.flatMap_cons, List.flatMap_nil, List.append_nil, List.append_assoc]
        rw [hnx] at hcall
        clear hnx htk hp hlen T3
        go_wp2_with (go_at_call 65; refine hcall.mono ?_; rintro e w5 ⟨rfl, hp5, hw5⟩)
        have hb5 := hbr.trans hw5
        have HP5 := Lib.hid hp5
        clear hcall hw5 hbr hp5
        go_roundw
        case rel => exact ⟨i + 1, by omega, by go_num, HP5, hb5⟩
        case measure => simp [intOf]; omega
      · obtain rfl : i = s.size := by omega
        have hp2 := hp.out
        rw [List.take_of_length_le (by rw [hl]; exact Nat.le_refl _)] at hp2 hlen
        have hq5 := wbyte_k B b _ 34 wr (.inr hp2.bd) (by omega) hp2.hB
        rw [show acc ++ [34] ++ s.data.toList.flatMap tellA ++ [34] = acc ++ quoteA s.data.toList by unfold quoteA; simp] at hq5
        clear hp hp2 hlen T3
        go_wp2_with fail
        refine hq5.mono ?_
        rintro e w6 ⟨rfl, q1, q2, q3, q4⟩
        have HF := Lib.hid (And.intro q1 (hbr.trans q2))
        clear hq5 q1 q2 q3 q4 hbr
        go_wp2
        go_end0
        exact ⟨rfl, HF.out⟩


set_option maxRecDepth 100000 in
set_option maxHeartbeats 4000000 in
theorem alaya_any (B b : Nat) (acc : TextA) (a : AddrA) (w : World) (h : Lib.IsBuilder 51 5 B b (Lib.byteCells acc) w) (hBw : B ≤ w.heap.size) (hacc : acc.length ≤ 10000000) (h1 : a.1.length ≤ 1000) (h2 : a.2.1.length ≤ 1000) (h3 : a.2.2.length ≤ 1000) :
    Calls Tryd.prog 19 #[.pointer (some ⟨b, 0, none⟩), addrV a] w fun e w' => e = .returned (.tuple #[]) ∧ Lib.BuilderAt 51 5 B b (.pointer (some ⟨b, 0, none⟩)) (Lib.byteCells (acc ++ addrTextA a)) w' ∧ Below B w w' := by
  obtain ⟨X, hX⟩ : ∃ X, textQ a.1 = X := ⟨_, rfl⟩
  obtain ⟨Y, hY⟩ : ∃ Y, textQ a.2.1 = Y := ⟨_, rfl⟩
  obtain ⟨Z, hZ⟩ : ∃ Z, textQ a.2.2 = Z := ⟨_, rfl⟩
  unfold addrV
  rw [hX, hY, hZ]
  have hXs : X.size = a.1.length := by rw [← hX]; rfl
  have hYs : Y.size = a.2.1.length := by rw [← hY]; rfl
  have hZs : Z.size = a.2.2.length := by rw [← hZ]; rfl
  obtain ⟨T, hT⟩ : ∃ T, Y ++ (⟨#[64]⟩ : ByteArray) ++ Z = T := ⟨_, rfl⟩
  have hTd : T.data.toList = bareA a := by
    rw [← hT, ← hY, ← hZ]
    unfold bareA
    rw [ByteArray.data_append, ByteArray.data_append, Array.toList_append, Array.toList_append]
    simp [textQ]
  have hTs : T.size = a.2.1.length + 1 + a.2.2.length := by
    rw [← bare_len2, ← hTd]
    rfl
  have k1 : ¬ 9223372036854775807 < Y.size + 1 := by omega
  have k2 : ¬ 9223372036854775807 < Y.size + 1 + Z.size := by omega
  obtain ⟨w0, hw0⟩ : ∃ w0, w.alloc (.cells #[.string X, .string Y, .string Z] 37) = w0 := ⟨_, rfl⟩
  have b0 : Below w.heap.size w w0 := by rw [← hw0]; exact (Below.refl _ _).alloc (Nat.le_refl _) _
  have n0 : AddrAt w0 w.heap.size X Y Z := by rw [← hw0]; exact addr_new w _ _ _
  obtain ⟨c0, c1, c2, c3, c4, c5⟩ := n0.cells
  have h0 := isbuilder_below h b0
  have B0 := Lib.hid (b0.mono hBw)
  have z0 := b0.size
  have hXe : X.toList.isEmpty = decide (a.1 = []) := by
    rw [← hX, text_empty]
    cases a.1 <;> rfl
  unfold addrTextA
  by_cases hn : a.1 = []
  · rw [if_pos hn]
    rw [decide_eq_true hn] at hXe
    have hw := bwrite_any B b (Lib.byteCells acc) T w0 h0 (by rw [Lib.byteCells_length]; omega) (by omega)
    rw [show Lib.byteCells acc ++ Lib.strCells T = Lib.byteCells (acc ++ bareA a) by rw [Lib.byteCells_append, ← hTd]; rfl] at hw
    clear h b0 n0 h0 z0 hX hY hZ hXs hYs hZs hTd hTs hn
    go_enter Tryd.func19, Tryd.ntmps19
    go_wp2_with fail
    refine hw.mono ?_
    rintro e w1 ⟨rfl, q1, q2⟩
    have HF := Lib.hid (And.intro q1 (B0.out.trans q2))
    clear hw q1 q2
    go_wp2
    exact bodyPost_ret (results_none rfl _ _ _) rfl ⟨rfl, HF.out⟩
  · rw [if_neg hn]
    rw [decide_eq_false hn] at hXe
    have hl := alayn_any B b acc X w0 h0 (by omega) (by omega) (by omega)
    rw [show X.data.toList = a.1 by rw [← hX]; rfl] at hl
    obtain ⟨P, hP⟩ : ∃ P, (⟨#[32, 60]⟩ : ByteArray) ++ T ++ (⟨#[62]⟩ : ByteArray) = P := ⟨_, rfl⟩
    have hPd : P.data.toList = [32, 60] ++ bareA a ++ [62] := by
      rw [← hP, ← hTd, ByteArray.data_append, ByteArray.data_append, Array.toList_append, Array.toList_append]
    have hPs : P.size = a.2.1.length + 1 + a.2.2.length + 3 := by
      have e : P.size = P.data.toList.length := rfl
      rw [e, hPd, List.length_append, List.length_append, bare_len2]
      simp
      omega
    have k3 : ¬ 9223372036854775807 < 2 + T.size := by omega
    have k4 : ¬ 9223372036854775807 < 2 + T.size + 1 := by omega
    have hnl := name_len2 a.1
    have hwr : Hid (∀ W, (Lib.BuilderAt 51 5 B b (.pointer (some ⟨b, 0, none⟩)) (Lib.byteCells (acc ++ nameTextA a.1)) W ∧ B ≤ W.heap.size) → Calls Tryd.prog 18 #[.pointer (some ⟨b, 0, none⟩), .string P] W fun e w' => e = .returned (.tuple #[.int .i64 P.size, .nilIface]) ∧ (Lib.BuilderAt 51 5 B b (.pointer (some ⟨b, 0, none⟩)) (Lib.byteCells (acc ++ (nameTextA a.1 ++ ([32, 60] ++ bareA a ++ [62])))) w' ∧ Below B W w')) := Lib.hid fun W hW => by
      have := bwrite_any B b (Lib.byteCells (acc ++ nameTextA a.1)) P W (.inr hW.1) (by rw [Lib.byteCells_length, List.length_append]; omega) hW.2
      rw [show Lib.byteCells (acc ++ nameTextA a.1) ++ Lib.strCells P = Lib.byteCells (acc ++ (nameTextA a.1 ++ ([32, 60] ++ bareA a ++ [62]))) by rw [← hPd, ← List.append_assoc, Lib.byteCells_append (acc ++ nameTextA a.1)]; rfl] at this
      exact this
    clear h b0 n0 h0 hX hY hZ hXs hYs hZs hTd hTs hn hPd hPs hnl
    go_enter Tryd.func19, Tryd.ntmps19
    go_wp2_with fail
    refine hl.mono ?_
    rintro e w1 ⟨rfl, q1, q2⟩
    have hw := hwr.out w1 ⟨q1, by have := q2.size; omega⟩
    have B1 := Lib.hid (B0.out.trans q2)
    clear hl q1 q2 hwr
    go_wp2_with fail
    refine hw.mono ?_
    rintro e w2 ⟨rfl, q1, q2⟩
    have HF := Lib.hid (And.intro q1 (B1.out.trans q2))
    clear hw q1 q2
    go_wp2
    go_end0
    exact ⟨rfl, HF.out⟩
end Go.Proofs.YtemkikpdmihmpaaDoor
