/-
  What addr.readAddress comes to.
-/
import Derived.Test.YtemkikpdmihmpaaDoorAdJ
namespace Go.Proofs.YtemkikpdmihmpaaDoor
open Go.RowKit

set_option maxRecDepth 100000 in
set_option maxHeartbeats 8000000 in
theorem arda_any (s : ByteArray) (w : World) (hs : s.size ≤ 400000) : Calls Tryd.prog 35 #[.string s] w fun e w' => ToldA (readAddrA s.data.toList) e ∧ Below w.heap.size w w' := by
  obtain ⟨w0, hw0⟩ : ∃ w0, w.alloc (.cells #[.string ⟨#[]⟩, .string ⟨#[]⟩, .string ⟨#[]⟩] 37) = w0 := ⟨_, rfl⟩
  have b0 : Below w.heap.size w w0 := by rw [← hw0]; exact (Below.refl _ _).alloc (Nat.le_refl _) _
  have r0 : AddrAt w0 w.heap.size ⟨#[]⟩ ⟨#[]⟩ ⟨#[]⟩ := by rw [← hw0]; exact addr_new w _ _ _
  have h1 := ardb_any s w0 (by omega)
  have hn := fun W => ardn_any s W (by omega)
  have hsl : s.data.toList.length = s.size := rfl
  have R0 := Lib.hid r0
  have B0 := Lib.hid b0
  clear r0 b0
  unfold readAddrA
  cases q1 : readBareA s.data.toList with
  | some x =>
    obtain ⟨a, r⟩ := x
    rw [q1] at h1
    obtain ⟨X, hX⟩ : ∃ X, textQ a.1 = X := ⟨_, rfl⟩
    obtain ⟨Y, hY⟩ : ∃ Y, textQ a.2.1 = Y := ⟨_, rfl⟩
    obtain ⟨Z, hZ⟩ : ∃ Z, textQ a.2.2 = Z := ⟨_, rfl⟩
    obtain ⟨T, hT⟩ : ∃ T, textQ r = T := ⟨_, rfl⟩
    have h2 : Calls Tryd.prog 50 #[.string s] w0 fun e w' => e = .returned (.tuple #[.agg #[.string X, .string Y, .string Z], .string T, .bool true]) ∧ Below w0.heap.size w0 w' := h1.mono fun e w' ⟨h, hb⟩ => ⟨by
      rw [← hX, ← hY, ← hZ, ← hT]
      exact h, hb⟩
    have HF : Hid (ToldA (some (a, r)) (.returned (.tuple #[.agg #[.string X, .string Y, .string Z], .string T, .bool true]))) := Lib.hid (by
      rw [← hX, ← hY, ← hZ, ← hT]
      exact rfl)
    clear h1 hn q1 hX hY hZ hT
    show Calls _ _ _ _ fun e w' => ToldA (some (a, r)) e ∧ _
    go_enter Tryd.func35, Tryd.ntmps35
    go_wp2_with fail
    refine h2.mono ?_
    rintro e w1 ⟨rfl, hw1⟩
    have a1 := R0.out.below hw1
    obtain ⟨q0, q1, q2, q3, q4, q5⟩ := a1.cells
    obtain ⟨wp, hwp⟩ : ∃ wp, ((w1.setCell ⟨w.heap.size, 0, none⟩ (.string X)).setCell ⟨w.heap.size, 1, none⟩ (.string Y)).setCell ⟨w.heap.size, 2, none⟩ (.string Z) = wp := ⟨_, rfl⟩
    have ap : AddrAt wp w.heap.size X Y Z := by rw [← hwp]; exact a1.put X Y Z
    have bp : Below w.heap.size w wp := by rw [← hwp]; exact below_put (B0.out.trans (hw1.mono B0.out.size)) (Nat.le_refl _) X Y Z
    obtain ⟨p0, p1, p2, p3, p4, p5⟩ := ap.cells
    obtain ⟨k0, k1, k2, _⟩ := (ap.put X Y Z).cells
    have B := Lib.hid (below_put bp (Nat.le_refl _) X Y Z)
    clear h2 hw1 a1 ap bp
    go_wp2
    refine bodyPost_ret (v := .tuple #[.agg #[.string X, .string Y, .string Z], .string T, .bool true]) (by simp [results, Tryd.f35, go_sem, k0, k1, k2, p0, p1, p2]) rfl ⟨HF.out, B.out⟩
  | none =>
    rw [q1] at h1
    have h2 : Calls Tryd.prog 50 #[.string s] w0 fun e w' => ∃ X Y Z T, e = .returned (.tuple #[.agg #[.string X, .string Y, .string Z], .string T, .bool false]) ∧ Below w0.heap.size w0 w' := h1.mono fun e w' ⟨⟨X, Y, Z, T, h⟩, hb⟩ => ⟨X, Y, Z, T, h, hb⟩
    obtain ⟨O, hO⟩ : ∃ O, (match (none : Option (AddrA × TextA)) with
      | some x => some x
      | none => match readNameA s.data.toList with
        | none => none
        | some (n, r) => match cutA 60 r with
          | none => none
          | some t => match readBareA (skipA t) with
            | none => none
            | some (a, u) => match cutA 62 (skipA u) with
              | none => none
              | some v => some ((n, a.2.1, a.2.2), v)) = O := ⟨_, rfl⟩
    have hO2 := hO
    simp only at hO2
    show Calls _ _ _ _ fun e w' => ToldA (match (none : Option (AddrA × TextA)) with
      | some x => some x
      | none => match readNameA s.data.toList with
        | none => none
        | some (n, r) => match cutA 60 r with
          | none => none
          | some t => match readBareA (skipA t) with
            | none => none
            | some (a, u) => match cutA 62 (skipA u) with
              | none => none
              | some v => some ((n, a.2.1, a.2.2), v)) e ∧ _
    rw [hO]
    clear h1 q1 hO
    go_enter Tryd.func35, Tryd.ntmps35
    go_wp2_with fail
    refine h2.mono ?_
    rintro e w1 ⟨X, Y, Z, T, rfl, hw1⟩
    have a1 := R0.out.below hw1
    have b1 := B0.out.trans (hw1.mono B0.out.size)
    obtain ⟨q0, q1, q2, q3, q4, q5⟩ := a1.cells
    obtain ⟨wp, hwp⟩ : ∃ wp, ((w1.setCell ⟨w.heap.size, 0, none⟩ (.string X)).setCell ⟨w.heap.size, 1, none⟩ (.string Y)).setCell ⟨w.heap.size, 2, none⟩ (.string Z) = wp := ⟨_, rfl⟩
    have awp : AddrAt wp w.heap.size X Y Z := by rw [← hwp]; exact a1.put X Y Z
    have bwp : Below w.heap.size w wp := by rw [← hwp]; exact below_put b1 (Nat.le_refl _) X Y Z
    have hnw := hn wp
    have Ap := Lib.hid awp
    have Bp := Lib.hid bwp
    clear h2 hw1 a1 b1 awp bwp hn
    cases q7 : readNameA s.data.toList with
    | none =>
      rw [q7] at hnw hO2
      have hn2 : Calls Tryd.prog 51 #[.string s] wp fun e w' => ∃ X Y, e = .returned (.tuple #[.string X, .string Y, .bool false]) ∧ Below wp.heap.size wp w' := hnw.mono fun e w' ⟨⟨X, Y, h⟩, hb⟩ => ⟨X, Y, h, hb⟩
      obtain rfl : none = O := hO2
      clear hnw q7
      go_wp2_with fail
      refine hn2.mono ?_
      rintro e w2 ⟨X2, Y2, rfl, hw2⟩
      have a2 := Ap.out.below hw2
      obtain ⟨q0, q1, q2, q3, q4, q5⟩ := a2.cells
      obtain ⟨k0, k1, k2, _⟩ := (a2.put ⟨#[]⟩ ⟨#[]⟩ ⟨#[]⟩).cells
      have B := Lib.hid (below_put (Bp.out.trans (hw2.mono Bp.out.size)) (Nat.le_refl _) ⟨#[]⟩ ⟨#[]⟩ ⟨#[]⟩)
      clear hn2 hw2 a2
      go_wp2
      refine bodyPost_ret (v := .tuple #[.agg #[.string ⟨#[]⟩, .string ⟨#[]⟩, .string ⟨#[]⟩], .string ⟨#[]⟩, .bool false]) (by simp [results, Tryd.f35, go_sem, k0, k1, k2]) rfl ⟨⟨_, _, _, _, rfl⟩, B.out⟩
    | some x =>
      obtain ⟨n, r⟩ := x
      rw [q7] at hnw hO2
      simp only at hO2
      obtain ⟨N, hN⟩ : ∃ N, textQ n = N := ⟨_, rfl⟩
      obtain ⟨P, hP⟩ : ∃ P, textQ r = P := ⟨_, rfl⟩
      have hn2 : Calls Tryd.prog 51 #[.string s] wp fun e w' => e = .returned (.tuple #[.string N, .string P, .bool true]) ∧ Below wp.heap.size wp w' := hnw.mono fun e w' ⟨h, hb⟩ => ⟨by rw [← hN, ← hP]; exact h, hb⟩
      have hpre := fun W => cutpre_one P 60 W
      rw [show P.data.toList = r by rw [← hP]; rfl] at hpre
      have hrl : r.length ≤ s.size := by
        unfold readNameA at q7
        split at q7
        · cases q7
        · cases q7
          exact names_len (s.data.toList.length + 1) [] s.data.toList
      have HN := Lib.hid hN
      clear hnw q7 hP hN
      go_wp2_with fail
      refine hn2.mono ?_
      rintro e w2 ⟨rfl, hw2⟩
      have a2 := Ap.out.below hw2
      have b2 := Bp.out.trans (hw2.mono Bp.out.size)
      cases q8 : cutA 60 r with
      | none =>
        rw [q8] at hpre hO2
        have hpre2 : ∀ W, Calls Tryd.prog 37 #[.string P, .string ⟨#[60]⟩] W fun e w' => ∃ R, e = .returned (.tuple #[.string R, .bool false]) ∧ w' = W := fun W => (hpre W).mono fun e w' ⟨⟨R, h, _⟩, h9⟩ => ⟨R, h, h9⟩
        obtain rfl : none = O := hO2
        obtain ⟨q0, q1, q2, q3, q4, q5⟩ := a2.cells
        obtain ⟨k0, k1, k2, _⟩ := (a2.put ⟨#[]⟩ ⟨#[]⟩ ⟨#[]⟩).cells
        have B := Lib.hid (below_put b2 (Nat.le_refl _) ⟨#[]⟩ ⟨#[]⟩ ⟨#[]⟩)
        clear hn2 hw2 a2 b2 q8 hpre
        go_wp2_with fail
        refine (hpre2 _).mono ?_
        rintro e w3 ⟨R, rfl, h9⟩
        obtain rfl := h9.symm
        clear h9 hpre2
        go_wp2
        refine bodyPost_ret (v := .tuple #[.agg #[.string ⟨#[]⟩, .string ⟨#[]⟩, .string ⟨#[]⟩], .string ⟨#[]⟩, .bool false]) (by simp [results, Tryd.f35, go_sem, k0, k1, k2]) rfl ⟨⟨_, _, _, _, rfl⟩, B.out⟩
      | some t =>
        rw [q8] at hpre hO2
        simp only at hO2
        obtain ⟨T2, hT2⟩ : ∃ T2, textQ t = T2 := ⟨_, rfl⟩
        have hpre2 : ∀ W, Calls Tryd.prog 37 #[.string P, .string ⟨#[60]⟩] W fun e w' => e = .returned (.tuple #[.string T2, .bool true]) ∧ w' = W := fun W => (hpre W).mono fun e w' ⟨⟨R, h, h2⟩, h9⟩ => ⟨by rw [h, h2 t rfl, hT2]; rfl, h9⟩
        have htl : t.length ≤ s.size := by
          rw [cut_len q8, List.length_cons] at hrl
          omega
        have hT2s : T2.size = t.length := by rw [← hT2]; rfl
        have hsk := fun W => askip_any T2 W (by omega)
        rw [show T2.data.toList = t by rw [← hT2]; rfl] at hsk
        obtain ⟨K, hK⟩ : ∃ K, textQ (skipA t) = K := ⟨_, rfl⟩
        rw [hK] at hsk
        have hskl := skip_le t
        have hKs : K.size = (skipA t).length := by rw [← hK]; rfl
        have hrb := fun W => ardb_any K W (by omega)
        rw [show K.data.toList = skipA t by rw [← hK]; rfl] at hrb
        have A2 := Lib.hid a2
        have B2 := Lib.hid b2
        clear hn2 hw2 a2 b2 hpre hT2 hT2s hK hKs q8
        go_wp2_with fail
        refine (hpre2 _).mono ?_
        rintro e w3 ⟨rfl, h9⟩
        obtain rfl := h9.symm
        clear h9 hpre2
        go_wp2_with fail
        refine (hsk _).mono ?_
        rintro e w4 ⟨rfl, hw4⟩
        have a4 := A2.out.below hw4
        have b4 := B2.out.trans (hw4.mono B2.out.size)
        have A4 := Lib.hid a4
        have B4 := Lib.hid b4
        have hrb4 := hrb w4
        clear a4 b4 hsk hw4 hrb
        cases q9 : readBareA (skipA t) with
        | none =>
          rw [q9] at hrb4 hO2
          have hrb5 : Calls Tryd.prog 50 #[.string K] w4 fun e w' => ∃ X Y Z T, e = .returned (.tuple #[.agg #[.string X, .string Y, .string Z], .string T, .bool false]) ∧ Below w4.heap.size w4 w' := hrb4.mono fun e w' ⟨⟨X, Y, Z, T, h⟩, hb⟩ => ⟨X, Y, Z, T, h, hb⟩
          obtain rfl : none = O := hO2
          clear hrb4 q9
          go_wp2_with fail
          refine hrb5.mono ?_
          rintro e w5 ⟨X5, Y5, Z5, T5, rfl, hw5⟩
          have a5 := A4.out.below hw5
          have b5 := B4.out.trans (hw5.mono B4.out.size)
          obtain ⟨q0, q1, q2, q3, q4, q5⟩ := a5.cells
          obtain ⟨wq, hwq⟩ : ∃ wq, ((w5.setCell ⟨w.heap.size, 0, none⟩ (.string X5)).setCell ⟨w.heap.size, 1, none⟩ (.string Y5)).setCell ⟨w.heap.size, 2, none⟩ (.string Z5) = wq := ⟨_, rfl⟩
          have awq : AddrAt wq w.heap.size X5 Y5 Z5 := by rw [← hwq]; exact a5.put X5 Y5 Z5
          have bwq : Below w.heap.size w wq := by rw [← hwq]; exact below_put b5 (Nat.le_refl _) X5 Y5 Z5
          obtain ⟨p0, p1, p2, p3, p4, p5⟩ := awq.cells
          obtain ⟨k0, k1, k2, _⟩ := (awq.put ⟨#[]⟩ ⟨#[]⟩ ⟨#[]⟩).cells
          have B := Lib.hid (below_put bwq (Nat.le_refl _) ⟨#[]⟩ ⟨#[]⟩ ⟨#[]⟩)
          clear hrb5 hw5 a5 b5 awq bwq
          go_wp2
          refine bodyPost_ret (v := .tuple #[.agg #[.string ⟨#[]⟩, .string ⟨#[]⟩, .string ⟨#[]⟩], .string ⟨#[]⟩, .bool false]) (by simp [results, Tryd.f35, go_sem, k0, k1, k2]) rfl ⟨⟨_, _, _, _, rfl⟩, B.out⟩
        | some x =>
          obtain ⟨a, u⟩ := x
          rw [q9] at hrb4 hO2
          simp only at hO2
          obtain ⟨X5, hX5⟩ : ∃ X5, textQ a.1 = X5 := ⟨_, rfl⟩
          obtain ⟨Y5, hY5⟩ : ∃ Y5, textQ a.2.1 = Y5 := ⟨_, rfl⟩
          obtain ⟨Z5, hZ5⟩ : ∃ Z5, textQ a.2.2 = Z5 := ⟨_, rfl⟩
          obtain ⟨U, hU⟩ : ∃ U, textQ u = U := ⟨_, rfl⟩
          have hrb5 : Calls Tryd.prog 50 #[.string K] w4 fun e w' => e = .returned (.tuple #[.agg #[.string X5, .string Y5, .string Z5], .string U, .bool true]) ∧ Below w4.heap.size w4 w' := hrb4.mono fun e w' ⟨h, hb⟩ => ⟨by
            rw [← hX5, ← hY5, ← hZ5, ← hU]
            exact h, hb⟩
          have hul := bare_len q9
          have hUs : U.size = u.length := by rw [← hU]; rfl
          have hsk := fun W => askip_any U W (by omega)
          rw [show U.data.toList = u by rw [← hU]; rfl] at hsk
          obtain ⟨K2, hK2⟩ : ∃ K2, textQ (skipA u) = K2 := ⟨_, rfl⟩
          rw [hK2] at hsk
          have hpre := fun W => cutpre_one K2 62 W
          rw [show K2.data.toList = skipA u by rw [← hK2]; rfl] at hpre
          have HY5 := Lib.hid hY5
          have HZ5 := Lib.hid hZ5
          clear hrb4 q9 hX5 hY5 hZ5 hU hUs hul hK2
          go_wp2_with fail
          refine hrb5.mono ?_
          rintro e w5 ⟨rfl, hw5⟩
          have a5 := A4.out.below hw5
          have b5 := B4.out.trans (hw5.mono B4.out.size)
          obtain ⟨q0, q1, q2, q3, q4, q5⟩ := a5.cells
          obtain ⟨wq, hwq⟩ : ∃ wq, ((w5.setCell ⟨w.heap.size, 0, none⟩ (.string X5)).setCell ⟨w.heap.size, 1, none⟩ (.string Y5)).setCell ⟨w.heap.size, 2, none⟩ (.string Z5) = wq := ⟨_, rfl⟩
          have awq : AddrAt wq w.heap.size X5 Y5 Z5 := by rw [← hwq]; exact a5.put X5 Y5 Z5
          have bwq : Below w.heap.size w wq := by rw [← hwq]; exact below_put b5 (Nat.le_refl _) X5 Y5 Z5
          obtain ⟨p0, p1, p2, p3, p4, p5⟩ := awq.cells
          obtain ⟨wr, hwr⟩ : ∃ wr, wq.setCell ⟨w.heap.size, 0, none⟩ (.string N) = wr := ⟨_, rfl⟩
          have awr : AddrAt wr w.heap.size N Y5 Z5 := by rw [← hwr]; exact awq.name N
          have bwr : Below w.heap.size w wr := by rw [← hwr]; exact bwq.setCell (p := ⟨w.heap.size, 0, none⟩) (Nat.le_refl _) _
          have Ar := Lib.hid awr
          have Br := Lib.hid bwr
          clear hrb5 hw5 a5 b5 awq bwq awr bwr
          go_wp2_with fail
          refine (hsk _).mono ?_
          rintro e w6 ⟨rfl, hw6⟩
          have a6 := Ar.out.below hw6
          have b6 := Br.out.trans (hw6.mono Br.out.size)
          obtain ⟨x0, x1, x2, x3, x4, x5⟩ := a6.cells
          obtain ⟨k0, k1, k2, _⟩ := (a6.put N Y5 Z5).cells
          have B := Lib.hid (below_put b6 (Nat.le_refl _) N Y5 Z5)
          clear hsk hw6 a6 b6
          cases q10 : cutA 62 (skipA u) with
          | none =>
            rw [q10] at hpre hO2
            have hpre2 : ∀ W, Calls Tryd.prog 37 #[.string K2, .string ⟨#[62]⟩] W fun e w' => ∃ R, e = .returned (.tuple #[.string R, .bool false]) ∧ w' = W := fun W => (hpre W).mono fun e w' ⟨⟨R, h, _⟩, h9⟩ => ⟨R, h, h9⟩
            obtain rfl : none = O := hO2
            clear hpre q10
            go_wp2_with fail
            refine (hpre2 _).mono ?_
            rintro e w7 ⟨R, rfl, h9⟩
            obtain rfl := h9.symm
            clear h9 hpre2
            go_wp2
            refine bodyPost_ret (v := .tuple #[.agg #[.string N, .string Y5, .string Z5], .string R, .bool false]) (by simp [results, Tryd.f35, go_sem, k0, k1, k2, x0, x1, x2]) rfl ⟨⟨_, _, _, _, rfl⟩, B.out⟩
          | some v =>
            rw [q10] at hpre hO2
            obtain ⟨V, hV⟩ : ∃ V, textQ v = V := ⟨_, rfl⟩
            have hpre2 : ∀ W, Calls Tryd.prog 37 #[.string K2, .string ⟨#[62]⟩] W fun e w' => e = .returned (.tuple #[.string V, .bool true]) ∧ w' = W := fun W => (hpre W).mono fun e w' ⟨⟨R, h, h2⟩, h9⟩ => ⟨by rw [h, h2 v rfl, hV]; rfl, h9⟩
            have hO3 : some ((n, a.2.1, a.2.2), v) = O := hO2
            have HF : Hid (ToldA O (.returned (.tuple #[.agg #[.string N, .string Y5, .string Z5], .string V, .bool true]))) := Lib.hid (by
              rw [← hO3, ← HN.out, ← HY5.out, ← HZ5.out, ← hV]
              exact rfl)
            clear hpre q10 hO2 hO3 hV
            go_wp2_with fail
            refine (hpre2 _).mono ?_
            rintro e w7 ⟨rfl, h9⟩
            obtain rfl := h9.symm
            clear h9 hpre2
            go_wp2
            refine bodyPost_ret (v := .tuple #[.agg #[.string N, .string Y5, .string Z5], .string V, .bool true]) (by simp [results, Tryd.f35, go_sem, k0, k1, k2, x0, x1, x2]) rfl ⟨HF.out, B.out⟩
end Go.Proofs.YtemkikpdmihmpaaDoor
