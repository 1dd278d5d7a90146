/-
  What addr.readList and Parse come to.
-/
import Derived.Test.YtemkikpdmihmpaaDoorAdK
namespace Go.Proofs.YtemkikpdmihmpaaDoor
open Go.RowKit


set_option maxRecDepth 100000 in
set_option maxHeartbeats 8000000 in
theorem alist_any (s0 : ByteArray) (w : World) (hs : s0.size ≤ 400000) :
    Calls Tryd.prog 22 #[.string s0] w fun e w' => ∃ v, e = .returned (.tuple #[v, .bool (readListA s0.data.toList).isSome]) ∧ AddrsOwn 37 w' w.heap.size v ((readListA s0.data.toList).getD []) ∧ Below w.heap.size w w' := by
  obtain ⟨R, hR⟩ : ∃ R, readListA s0.data.toList = R := ⟨_, rfl⟩
  rw [hR]
  have hl0 : s0.data.toList.length = s0.size := rfl
  have HR := Lib.hid hR
  clear hR
  go_enter Tryd.func22, Tryd.ntmps22
  go_wp2
  go_loopw [0, 4] (fun sv lv wr => ∃ (s : ByteArray) (acc : List AddrA) (n : Nat), sv = .string s ∧ AddrsOwn 37 wr w.heap.size lv acc ∧ Hid (s.data.toList.length < n ∧ listN n acc s.data.toList = R) ∧ acc.length + s.size ≤ s0.size ∧ Below w.heap.size w wr) (fun sv _ _ => match sv with | .string s => s.size | _ => 0)
  case atStart => exact ⟨s0, [], s0.data.toList.length + 1, rfl, World.ownsRow_nil _ _ _ _, Lib.hid ⟨Nat.lt_succ_self _, HR.out⟩, by simp, Below.refl _ _⟩
  case round =>
    obtain ⟨s, acc, n, rfl, hown, hst, hz1, hbr⟩ := hrel
    have hbz := hbr.size
    obtain ⟨hn, hnm⟩ := hst.out
    obtain ⟨n, rfl⟩ : ∃ m, n = m + 1 := ⟨n - 1, by omega⟩
    rw [listN] at hnm
    obtain ⟨k, hk⟩ : ∃ k, acc.length = k := ⟨_, rfl⟩
    obtain ⟨ao, cap, rfl⟩ := row_sliceA hown
    have Hown := Lib.hid hown
    clear hown
    rw [hk] at hz1 ⊢
    have hsl : s.data.toList.length = s.size := rfl
    have hsk := askip_any s wr (by omega)
    have hskl := skip_le s.data.toList
    obtain ⟨K, hK⟩ : ∃ K, textQ (skipA s.data.toList) = K := ⟨_, rfl⟩
    have hKs : K.size = (skipA s.data.toList).length := by rw [← hK]; rfl
    rw [hK] at hsk
    have hrd := fun W => arda_any K W (by omega)
    rw [show K.data.toList = skipA s.data.toList by rw [← hK]; rfl] at hrd
    clear hst HR
    go_wp2_with fail
    refine hsk.mono ?_
    rintro e w1 ⟨rfl, hw1⟩
    have b1 := hbr.trans (hw1.mono hbz)
    have o1 := ownsRow_belowA Hown.out hw1
    have hrd1 := hrd w1
    have B1 := Lib.hid b1
    have O1 := Lib.hid o1
    clear hsk hw1 b1 o1 hrd hbr hbz Hown
    cases q1 : readAddrA (skipA s.data.toList) with
    | none =>
      rw [q1] at hrd1 hnm
      have hrd2 : Calls Tryd.prog 35 #[.string K] w1 fun e w' => ∃ X Y Z T, e = .returned (.tuple #[.agg #[.string X, .string Y, .string Z], .string T, .bool false]) ∧ Below w1.heap.size w1 w' := hrd1.mono fun e w' ⟨⟨X, Y, Z, T, h⟩, hb⟩ => ⟨X, Y, Z, T, h, hb⟩
      obtain rfl : none = R := hnm
      clear hrd1 q1 hK
      go_wp2_with fail
      refine hrd2.mono ?_
      rintro e w2 ⟨X, Y, Z, T, rfl, hw2⟩
      obtain ⟨w3, hw3⟩ : ∃ w3, w2.alloc (.cells #[.string X, .string Y, .string Z] 37) = w3 := ⟨_, rfl⟩
      have n3 : AddrAt w3 w2.heap.size X Y Z := by rw [← hw3]; exact addr_new w2 _ _ _
      have b3 : Below w.heap.size w w3 := by rw [← hw3]; exact (B1.out.trans (hw2.mono B1.out.size)).alloc (by have := B1.out.size; have := hw2.size; omega) _
      obtain ⟨q0, q1, q2, q3, q4, q5⟩ := n3.cells
      clear hrd2 hw2 n3
      go_wp2
      go_ret2
      exact ⟨_, rfl, World.ownsRow_nil _ _ _ _, b3⟩
    | some x =>
      obtain ⟨a, r⟩ := x
      rw [q1] at hrd1 hnm
      simp only at hnm
      obtain ⟨X, hX⟩ : ∃ X, textQ a.1 = X := ⟨_, rfl⟩
      obtain ⟨Y, hY⟩ : ∃ Y, textQ a.2.1 = Y := ⟨_, rfl⟩
      obtain ⟨Z, hZ⟩ : ∃ Z, textQ a.2.2 = Z := ⟨_, rfl⟩
      obtain ⟨T, hT⟩ : ∃ T, textQ r = T := ⟨_, rfl⟩
      have hrd2 : Calls Tryd.prog 35 #[.string K] w1 fun e w' => e = .returned (.tuple #[.agg #[.string X, .string Y, .string Z], .string T, .bool true]) ∧ Below w1.heap.size w1 w' := hrd1.mono fun e w' ⟨h, hb⟩ => ⟨by
        rw [← hX, ← hY, ← hZ, ← hT]
        exact h, hb⟩
      have hrl := addr_len q1
      have hrt := fun W => aright_any a W
      unfold addrV at hrt
      simp only [hX, hY, hZ] at hrt
      clear hrd1 q1 hK
      go_wp2_with fail
      refine hrd2.mono ?_
      rintro e w2 ⟨rfl, hw2⟩
      obtain ⟨w3, hw3⟩ : ∃ w3, w2.alloc (.cells #[.string X, .string Y, .string Z] 37) = w3 := ⟨_, rfl⟩
      have n3 : AddrAt w3 w2.heap.size X Y Z := by rw [← hw3]; exact addr_new w2 _ _ _
      have l3 : Below w1.heap.size w1 w3 := by rw [← hw3]; exact hw2.alloc hw2.size _
      obtain ⟨q0, q1, q2, q3, q4, q5⟩ := id n3.cells
      have N3 := Lib.hid n3
      have B3 := Lib.hid (B1.out.trans (l3.mono B1.out.size))
      have O3 := Lib.hid (ownsRow_belowA O1.out l3)
      have hrt3 := hrt w3
      clear hrd2 hw2 n3 l3 B1 O1 hrt
      cases hr : rightA a with
      | false =>
        rw [hr] at hrt3 hnm
        obtain rfl : none = R := hnm
        clear hr hX hY hZ hT
        go_wp2_with fail
        refine hrt3.mono ?_
        rintro e w4 ⟨rfl, hw4⟩
        have b4 := B3.out.trans (hw4.mono B3.out.size)
        clear hrt3 hw4
        go_wp2
        go_ret2
        exact ⟨_, rfl, World.ownsRow_nil _ _ _ _, b4⟩
      | true =>
        rw [hr] at hrt3 hnm
        rw [if_neg (by simp)] at hnm
        obtain ⟨m1, m2, m3⟩ := right_len hr
        have hap := fun W => aapart_any X Y Z W (by rw [← hX]; show a.1.length ≤ _; omega) (by rw [← hY]; show a.2.1.length ≤ _; omega) (by rw [← hZ]; show a.2.2.length ≤ _; omega)
        have hTs : T.size = r.length := by rw [← hT]; rfl
        have hsk := fun W => askip_any T W (by omega)
        rw [show T.data.toList = r by rw [← hT]; rfl] at hsk
        obtain ⟨U, hU⟩ : ∃ U, textQ (skipA r) = U := ⟨_, rfl⟩
        have hUe : U.toList.isEmpty = (skipA r).isEmpty := by rw [← hU, text_empty]
        have hpre := fun W => cutpre_one U 44 W
        rw [show U.data.toList = skipA r by rw [← hU]; rfl] at hpre
        rw [hU] at hsk
        have hrs := skip_le r
        have HX := Lib.hid hX
        have HY := Lib.hid hY
        have HZ := Lib.hid hZ
        have Hk := Lib.hid hk
        have hk2 : k ≤ 1000000 := by omega
        have Hn := Lib.hid hnm
        clear hr hX hY hZ hT m1 m2 m3 hTs hU hk hnm
        go_wp2_with fail
        refine hrt3.mono ?_
        rintro e w4 ⟨rfl, hw4⟩
        have n4 := N3.out.below hw4
        obtain ⟨x0, x1, x2, x3, x4, x5⟩ := id n4.cells
        have b4 := B3.out.trans (hw4.mono B3.out.size)
        have o4 := ownsRow_belowA O3.out hw4
        have B4 := Lib.hid b4
        have O4 := Lib.hid o4
        clear hrt3 hw4 n4 b4 o4 N3 B3 O3
        go_wp2_with fail
        refine (hap _).mono ?_
        rintro e w5 ⟨rfl, hw5⟩
        have b5 := B4.out.trans (hw5.mono B4.out.size)
        have o5 := ownsRow_belowA O4.out hw5
        obtain ⟨wa, hwa⟩ : ∃ wa, w5.alloc (.cells #[.string X, .string Y, .string Z] 37) = wa := ⟨_, rfl⟩
        have ha : Below w5.heap.size w5 wa := by rw [← hwa]; exact (Below.refl _ _).alloc (Nat.le_refl _) _
        have hoa : AddrsOwn 37 wa w.heap.size (.slice ao k cap) acc := by
          rw [← Hk.out]
          exact ownsRow_belowA o5 ha
        have na : AddrAt wa w5.heap.size X Y Z := by rw [← hwa]; exact addr_new w5 _ _ _
        have hca : wa.cell? ⟨w5.heap.size, 0, none⟩ = some (.string (textQ a.1)) ∧ wa.cell? ⟨w5.heap.size, 1, none⟩ = some (.string (textQ a.2.1)) ∧ wa.cell? ⟨w5.heap.size, 2, none⟩ = some (.string (textQ a.2.2)) := by
          rw [HX.out, HY.out, HZ.out]
          exact ⟨na.cells.1, na.cells.2.1, na.cells.2.2.1⟩
        have Hoa := Lib.hid hoa
        have Hba := Lib.hid (b5.trans (ha.mono b5.size))
        have Hca := Lib.hid hca
        clear hap hw5 b5 o5 ha hoa na hca B4 O4
        go_wp2_with (at_builtin; refine append_addrA 37 22 infoAddr Tryd.underlying22 rfl _ _ rfl w.heap.size (.slice ao k cap) acc a rfl Hoa.out Hba.out.size (by rw [Hk.out]; exact hk2) w5.heap.size 1 rfl Hca.out.1 Hca.out.2.1 Hca.out.2.2 ?_)
        intro v' w6 hown6 hgrow
        have b6 : Below w.heap.size w w6 := Hba.out.grown hgrow Hba.out.size (fun q hq => (Hoa.out.lt q hq).1)
        have O6 := Lib.hid hown6
        have hsk6 := hsk w6
        have B6 := Lib.hid b6
        clear hown6 hgrow b6 Hoa Hba Hca hsk
        obtain ⟨ao6, cap6, rfl⟩ := row_sliceA O6.out
        go_wp2_with fail
        refine hsk6.mono ?_
        rintro e w7 ⟨rfl, hw7⟩
        have b7 := B6.out.trans (hw7.mono B6.out.size)
        have e9 : (acc ++ [a]).length = acc.length + 1 := by simp
        have o7 : AddrsOwn 37 w7 w.heap.size (.slice ao6 (acc.length + 1) cap6) (acc ++ [a]) := by
          rw [← e9]
          exact ownsRow_belowA O6.out hw7
        have B7 := Lib.hid b7
        have O7 := Lib.hid o7
        clear hsk6 hw7 b7 o7 B6 O6 e9
        cases hue : U.toList.isEmpty with
        | true =>
          have hsr : skipA r = [] := by
            rw [hUe] at hue
            exact List.isEmpty_iff.1 hue
          have hn2 := Hn.out
          rw [if_pos hsr] at hn2
          obtain rfl : some (acc ++ [a]) = R := hn2
          clear hUe hsr
          go_wp2
          go_ret2
          exact ⟨_, rfl, O7.out, B7.out⟩
        | false =>
          have hsr : ¬ skipA r = [] := fun e => by
            rw [hUe, e] at hue
            cases hue
          have hn2 := Hn.out
          rw [if_neg hsr] at hn2
          have hpre7 := hpre w7
          clear hUe hsr Hn hpre
          cases q2 : cutA 44 (skipA r) with
          | none =>
            rw [q2] at hpre7 hn2
            have hpre8 : Calls Tryd.prog 37 #[.string U, .string ⟨#[44]⟩] w7 fun e w' => ∃ R, e = .returned (.tuple #[.string R, .bool false]) ∧ w' = w7 := hpre7.mono fun e w' ⟨⟨R, h, _⟩, h9⟩ => ⟨R, h, h9⟩
            obtain rfl : none = R := hn2
            clear hpre7 q2
            go_wp2_with fail
            refine hpre8.mono ?_
            rintro e w8 ⟨R8, rfl, h9⟩
            obtain rfl := h9.symm
            clear h9 hpre8
            go_wp2
            go_ret2
            exact ⟨_, rfl, World.ownsRow_nil _ _ _ _, B7.out⟩
          | some t =>
            rw [q2] at hpre7 hn2
            obtain ⟨V, hV⟩ : ∃ V, textQ t = V := ⟨_, rfl⟩
            have hpre8 : Calls Tryd.prog 37 #[.string U, .string ⟨#[44]⟩] w7 fun e w' => e = .returned (.tuple #[.string V, .bool true]) ∧ w' = w7 := hpre7.mono fun e w' ⟨⟨R, h, h2⟩, h9⟩ => ⟨by rw [h, h2 t rfl, hV]; rfl, h9⟩
            have hVs : V.size = t.length := by rw [← hV]; rfl
            have hVd : V.data.toList = t := by rw [← hV]; rfl
            have htl : t.length < r.length := by
              have := congrArg List.length (cut_len q2)
              rw [List.length_cons] at this
              omega
            have HN : Hid (V.data.toList.length < n ∧ listN n (acc ++ [a]) V.data.toList = R) := Lib.hid ⟨by rw [hVd]; omega, by rw [hVd]; exact hn2⟩
            have hz2 : (acc ++ [a]).length + V.size ≤ s0.size := by rw [List.length_append, Hk.out, hVs]; simp; omega
            have hlt : V.size < s.size := by omega
            clear hpre7 q2 hn2 hV hVs hVd htl
            go_wp2_with fail
            refine hpre8.mono ?_
            rintro e w8 ⟨rfl, h9⟩
            obtain rfl := h9.symm
            clear h9 hpre8
            go_wp2
            exact ⟨⟨V, _, n, rfl, O7.out, HN, hz2, B7.out⟩, hlt⟩

set_option maxRecDepth 100000 in
set_option maxHeartbeats 4000000 in
theorem aparse_any (s : ByteArray) (w : World) :
    Calls Tryd.prog 10 #[.string s] w fun e w' => ∃ v, e = .returned (.tuple #[v, .int .i64 (parseA s.data.toList).2]) ∧ AddrsOwn 37 w' w.heap.size v (parseA s.data.toList).1 ∧ Below w.heap.size w w' := by
  unfold parseA
  rw [show s.data.toList.length = s.size from rfl]
  by_cases h : 16384 < s.size
  · rw [if_pos h]
    go_enter Tryd.func10, Tryd.ntmps10
    go_wp2
    go_ret2
    exact ⟨_, rfl, World.ownsRow_nil _ _ _ _, Below.refl _ _⟩
  · rw [if_neg h]
    have hc := alist_any s w (by omega)
    cases q : readListA s.data.toList with
    | none =>
      rw [q] at hc
      have hc2 : Calls Tryd.prog 22 #[.string s] w fun e w' => ∃ v, e = .returned (.tuple #[v, .bool false]) ∧ Below w.heap.size w w' := hc.mono fun e w' ⟨v, h, _, hb⟩ => ⟨v, h, hb⟩
      clear hc q
      go_enter Tryd.func10, Tryd.ntmps10
      go_wp2_with fail
      refine hc2.mono ?_
      rintro e w1 ⟨v, rfl, hw1⟩
      go_wp2
      go_ret2
      exact ⟨_, rfl, World.ownsRow_nil _ _ _ _, hw1⟩
    | some l =>
      rw [q] at hc
      have hc2 : Calls Tryd.prog 22 #[.string s] w fun e w' => ∃ v, e = .returned (.tuple #[v, .bool true]) ∧ AddrsOwn 37 w' w.heap.size v l ∧ Below w.heap.size w w' := hc
      clear hc q
      obtain ⟨k, hk⟩ : ∃ k, l.length = k := ⟨_, rfl⟩
      simp only [hk]
      have Hk := Lib.hid hk
      clear hk
      by_cases h64 : 64 < k
      · rw [if_pos h64]
        go_enter Tryd.func10, Tryd.ntmps10
        go_wp2_with fail
        refine hc2.mono ?_
        rintro e w1 ⟨v, rfl, ho, hw1⟩
        obtain ⟨ao, cap, rfl⟩ := row_sliceA ho
        rw [Hk.out]
        clear ho hc2
        go_wp2
        go_ret2
        exact ⟨_, rfl, World.ownsRow_nil _ _ _ _, hw1⟩
      · rw [if_neg h64]
        go_enter Tryd.func10, Tryd.ntmps10
        go_wp2_with fail
        refine hc2.mono ?_
        rintro e w1 ⟨v, rfl, ho, hw1⟩
        obtain ⟨ao, cap, rfl⟩ := row_sliceA ho
        have Ho : Hid (AddrsOwn 37 w1 w.heap.size (.slice ao k cap) l) := Lib.hid (by rw [← Hk.out]; exact ho)
        rw [Hk.out]
        clear ho hc2
        go_wp2
        go_ret2
        exact ⟨_, rfl, Ho.out, hw1⟩
end Go.Proofs.YtemkikpdmihmpaaDoor
