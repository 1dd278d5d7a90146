/-
  WalTexts: the walk.
-/
import Derived.Test.YtcjmpkfcjcoobaaGreatYWRoom
import Derived.Test.YtcjmpkfcjcoobaaGreatYR8U
import Derived.Test.YtcjmpkfcjcoobaaGreatY27
namespace Go.Proofs.YtcjmpkfcjcoobaaGreat
open Go.RowKit Go.Maps

theorem print_two (l : List Ch) : ∃ T E, printV l = .tuple #[.string T, .int .i64 E] ∧ ((E = 0 ∧ (∀ c ∈ l, c.fits) ∧ T = textQ (printL l)) ∨ E = 3) := by
  by_cases h : ∀ c ∈ l, c.fits
  · exact ⟨_, _, printV_fit h, .inl ⟨rfl, h, rfl⟩⟩
  · obtain ⟨x, hx⟩ := Classical.not_forall.1 h
    obtain ⟨hx, hxf⟩ := Classical.not_imp.1 hx
    exact ⟨_, _, printV_not hx hxf, .inr rfl⟩
theorem print_len (l : List Ch) (h : ∀ c ∈ l, c.fits) : (printL l).length ≤ 131075 * l.length := by
  induction l with
  | nil => simp [printL]
  | cons c l ih =>
    have e : printL (c :: l) = printC c ++ printL l := by unfold printL; rw [List.flatMap_cons]
    have hs : c.says.length ≤ c.val.length := by
      unfold Ch.says
      split
      · simp
      · exact Nat.le_refl _
    have hc := h c (List.mem_cons_self ..)
    have := ih (fun c hc => h c (List.mem_cons_of_mem _ hc))
    rw [e, List.length_append, printC_len, List.length_cons]
    have := hc.1
    have := hc.2
    omega
/-- A change's cells, of changes somewhere. -/
theorem ChsAt.cells {w : World} {B n : Nat} {ao : Option Addr} {cap : Nat} {l : List Ch} (h : ChsAt w B (.slice ao n cap) l) (hn : n = l.length) {i : Nat} (hi : i < l.length) : ∃ g off, ao = some ⟨g, off, none⟩ ∧ g < B ∧
    w.cell? ⟨g, off + i * 3, none⟩ = some (.string (textQ l[i].key)) ∧ w.cell? ⟨g, off + i * 3 + 1, none⟩ = some (.string (textQ l[i].val)) ∧ w.cell? ⟨g, off + i * 3 + 2, none⟩ = some (.bool l[i].gone) := by
  obtain ⟨ao', cap', e, h2, h3, h4⟩ := h
  obtain ⟨rfl, _, rfl⟩ := Value.slice.inj e
  exact h4 i hi

set_option maxRecDepth 100000 in
set_option maxHeartbeats 16000000 in
theorem wtexts_walk (v : Value) (l : List Ch) (s : ByteArray) (w : World) (hch : ChsAt w w.heap.size v l) (hsm : SmallC l) (hs : s.size ≤ maxLen) :
    Calls Tryz.prog 3 #[v, .string s] w fun e w' => e = .returned (.bool true) ∧ Below w.heap.size w w' := by
  have haw := awake8_any w
  have Hch := Lib.hid hch
  have Hsm := Lib.hid hsm
  obtain ⟨ao, cap, rfl, hc1, hc2, hat0⟩ := hch
  clear hat0
  obtain ⟨n, hn⟩ : ∃ n, l.length = n := ⟨_, rfl⟩
  have Hn := Lib.hid hn
  rw [hn] at Hch hc1 ⊢
  unfold maxLen at hs hc2
  clear hsm hn
  go_enter Tryz.func3, Tryz.ntmps3
  go_wp2_with fail
  refine haw.mono ?_
  rintro e w1 ⟨rfl, hb1⟩
  have Hb1 := Lib.hid hb1
  clear hb1 haw
  by_cases h60 : 60 < n
  · go_wp2
    go_ret
    exact ⟨rfl, Hb1.out⟩
  by_cases h3000 : 3000 < s.size
  · go_wp2
    go_ret
    exact ⟨rfl, Hb1.out⟩
  go_wp2
  go_loop [5] (fun iv => ∃ i : Nat, i ≤ n ∧ iv = .int .i64 i ∧ Hid (∀ j (h : j < l.length), j < i → l[j].key.length ≤ 70000 ∧ l[j].val.length ≤ 70000)) (fun iv => n - (intOf iv).toNat)
  case atStart => exact ⟨0, by omega, rfl, Lib.hid (fun j _ h => by omega)⟩
  case round =>
    obtain ⟨i, hi, rfl, hj⟩ := hrel
    by_cases hlt : i < n
    · have hil : i < l.length := by rw [Hn.out]; exact hlt
      obtain ⟨g, off, rfl, hg, z0, z1, z2⟩ := Hch.out.cells Hn.out.symm hil
      clear z2
      obtain ⟨s0, s1⟩ := Hsm.out _ (List.getElem_mem hil)
      have hnext : l[i].key.length ≤ 70000 ∧ l[i].val.length ≤ 70000 → ∀ j (h : j < l.length), j < i + 1 → l[j].key.length ≤ 70000 ∧ l[j].val.length ≤ 70000 := fun h j hj2 hji => by
        rcases Nat.lt_or_ge j i with h1 | h1
        · exact hj.out j hj2 h1
        · obtain rfl : j = i := by omega
          exact h
      obtain ⟨c, hc⟩ : ∃ c, l[i] = c := ⟨_, rfl⟩
      rw [hc] at z0 z1 s0 s1 hnext
      obtain ⟨K, hK⟩ : ∃ K, textQ c.key = K := ⟨_, rfl⟩
      obtain ⟨V, hV⟩ : ∃ V, textQ c.val = V := ⟨_, rfl⟩
      have hKs : K.size = c.key.length := by rw [← hK]; rfl
      have hVs : V.size = c.val.length := by rw [← hV]; rfl
      rw [← hKs, ← hVs] at hnext
      rw [← hKs] at s0
      rw [← hVs] at s1
      rw [hK] at z0
      rw [hV] at z1
      unfold maxLen at s0 s1
      have y0 := (Hb1.out.cell (p := ⟨g, off + i * 3, none⟩) hg).trans z0
      have y1 := (Hb1.out.cell (p := ⟨g, off + i * 3 + 1, none⟩) hg).trans z1
      have hg1 : g < w1.heap.size := by have := Hb1.out.size; omega
      have Hnext := Lib.hid hnext
      clear z0 z1 hnext hc hK hV hKs hVs hj hil
      by_cases hk7 : 70000 < K.size
      · go_wp2
        go_ret
        exact ⟨rfl, Hb1.out⟩
      · by_cases hv7 : 70000 < V.size
        · go_wp2
          go_ret
          exact ⟨rfl, Hb1.out⟩
        · have Hn2 : Hid (∀ j (h : j < l.length), j < i + 1 → l[j].key.length ≤ 70000 ∧ l[j].val.length ≤ 70000) := Lib.hid (Hnext.out ⟨by omega, by omega⟩)
          clear Hnext
          --@a
          go_wp2
          exact ⟨⟨i + 1, by omega, by go_num, Hn2⟩, by simp [intOf]; omega⟩
    · obtain rfl : i = n := by omega
      obtain ⟨T, E, hpv, hTE⟩ := print_two l
      have hl6 : l.length ≤ 60 := by rw [Hn.out]; omega
      have hpr := print_all w.heap.size (.slice ao i cap) l w1 (Hch.out.below Hb1.out (Nat.le_refl _)) Hb1.out.size (by omega) (fun h => by have := print_len l h; omega)
      have hof : Hid (∀ W, Below w.heap.size w W → Calls Tryz.prog 10 #[.slice ao i cap] W fun e w' => ∃ v', e = .returned v' ∧ ChsAt w' w'.heap.size v' l ∧ Below w.heap.size w w') := Lib.hid fun W hb => by
        refine (of8_any w.heap.size (.slice ao i cap) l W (Hch.out.below hb (Nat.le_refl _)) hb.size (by omega)).mono ?_
        rintro e w' ⟨v', rfl, ho, hb2⟩
        exact ⟨v', rfl, ho.at, hb.trans (hb2.mono hb.size)⟩
      have hrp : Hid (∀ W v', Below w.heap.size w W → ChsAt W W.heap.size v' l → Calls Tryz.prog 9 #[v'] W fun e w' => e = .returned (.tuple #[.string T, .int .i64 E]) ∧ Below w.heap.size w w') := Lib.hid fun W v' hb ho => by
        refine (rprint_any W.heap.size v' l W ho (Nat.le_refl _) (by omega)).mono ?_
        rintro e w' ⟨rfl, hb2⟩
        exact ⟨by rw [hpv], hb.trans (hb2.mono hb.size)⟩
      rw [hpv] at hpr
      have HTE := Lib.hid hTE
      have Hl6 := Lib.hid hl6
      clear hpv hTE hl6 hj hc1 hc2
      --@b
      go_wp2_with fail
      refine hpr.mono ?_
      rintro e w2 ⟨rfl, hb2⟩
      have hb3 := Hb1.out.trans (hb2.mono Hb1.out.size)
      have ho3 := hof.out w2 hb3
      clear hpr hb2 hb3
      go_wp2_with fail
      refine ho3.mono ?_
      rintro e w3 ⟨v3, rfl, hc3, hb3⟩
      have hr3 := hrp.out w3 v3 hb3 hc3
      clear ho3 hof hrp
      go_wp2_with fail
      refine hr3.mono ?_
      rintro e w4 ⟨rfl, hb4⟩
      have Hb4 := Lib.hid hb4
      clear hr3 hb3 hc3
      have hss : s.data.toList.length = s.size := rfl
      have hps := parse_any s.data.toList (by omega) w4
      rw [show textQ s.data.toList = s from rfl] at hps
      have hp2 : Calls Tryz.prog 11 #[.string s] w4 fun e w' => ∃ ax n2 cx cd l2, e = .returned (.tuple #[.slice ax n2 cx, .int .i64 cd]) ∧ Hid (ChsAt w' w'.heap.size (.slice ax n2 cx) l2 ∧ n2 = l2.length ∧ l2.length ≤ 3000 ∧ Below w.heap.size w w') ∧ Hid ((parseL s.size s.data.toList = none ∧ cd = 2 ∧ l2 = []) ∨ (parseL s.size s.data.toList = some l2 ∧ cd = 0)) := by
        refine hps.mono ?_
        rintro e w' ⟨v, code, rfl, hb, hres⟩
        have hb5 := hb4.trans (hb.mono hb4.size)
        rcases hres with ⟨h0, rfl, rfl⟩ | ⟨l2, h0, rfl, hown⟩
        · exact ⟨none, 0, 0, 2, [], rfl, Lib.hid ⟨⟨none, 0, rfl, Nat.le_refl _, by simp, fun i hi => by simp at hi⟩, rfl, by simp, hb5⟩, Lib.hid (.inl ⟨h0, rfl, rfl⟩)⟩
        · obtain ⟨ax, cx, rfl⟩ := slice_of hown
          have hll := parse_count _ _ h0
          exact ⟨ax, l2.length, cx, 0, l2, rfl, Lib.hid ⟨hown.at, rfl, by omega, hb5⟩, Lib.hid (.inr ⟨h0, rfl⟩)⟩
      clear hps hb4
      --@c
      go_wp2_with fail
      refine hp2.mono ?_
      rintro e w5 ⟨ax, n2, cx, cd, l2, rfl, H5, Hpr⟩
      have hrs := rparse_any s.data.toList (by omega) w5
      rw [show textQ s.data.toList = s from rfl] at hrs
      have hp3 : Calls Tryz.prog 12 #[.string s] w5 fun e w' => ∃ ay cy, e = .returned (.tuple #[.slice ay n2 cy, .int .i64 cd]) ∧ Hid (ChsAt w' w'.heap.size (.slice ay n2 cy) l2 ∧ ChsAt w' w5.heap.size (.slice ax n2 cx) l2 ∧ w5.heap.size ≤ w'.heap.size ∧ Below w.heap.size w w') := by
        refine hrs.mono ?_
        rintro e w' ⟨v, code, rfl, hb, hres⟩
        have hb6 := H5.out.2.2.2.trans (hb.mono H5.out.2.2.2.size)
        have hx6 := H5.out.1.below hb (Nat.le_refl _)
        have hn2 := H5.out.2.1
        rcases hres with ⟨h0, rfl, rfl⟩ | ⟨l3, h0, rfl, hown⟩
        · rcases Hpr.out with ⟨_, rfl, rfl⟩ | ⟨h1, _⟩
          · subst hn2
            exact ⟨none, 0, rfl, Lib.hid ⟨⟨none, 0, rfl, Nat.le_refl _, by simp, fun i hi => by simp at hi⟩, hx6, hb.size, hb6⟩⟩
          · rw [show s.data.toList.length = s.size from rfl, h1] at h0
            cases h0
        · rcases Hpr.out with ⟨h1, _⟩ | ⟨h1, rfl⟩
          · rw [show s.data.toList.length = s.size from rfl, h1] at h0
            cases h0
          · rw [show s.data.toList.length = s.size from rfl, h1] at h0
            obtain rfl := Option.some.inj h0
            obtain ⟨ay, cy, rfl⟩ := slice_of hown
            subst hn2
            exact ⟨ay, cy, rfl, Lib.hid ⟨hown.at, hx6, hb.size, hb6⟩⟩
      have Hn2 : Hid (n2 = l2.length) := Lib.hid H5.out.2.1
      have hn3 : n2 ≤ 3000 := by
        have := H5.out.2.1
        have := H5.out.2.2.1
        omega
      clear hrs hp2 H5 Hpr
      --@d
      go_wp2_with fail
      refine hp3.mono ?_
      rintro e w6 ⟨ay, cy, rfl, H6⟩
      clear hp3
      --@e
      go_wp2
      --@f
      go_loopw [14] (fun iv wr => ∃ j : Nat, j ≤ n2 ∧ iv = .int .i64 j ∧ Below w6.heap.size w6 wr) (fun iv _ => n2 - (intOf iv).toNat)
      case atStart => exact ⟨0, by omega, rfl, Below.refl _ _⟩
      case round =>
        obtain ⟨j, hj2, rfl, hbr⟩ := hrel
        by_cases hlt2 : j < n2
        · have hjl : j < l2.length := by have := Hn2.out; omega
          obtain ⟨g1, o1, rfl, hg1, a0, a1, a2⟩ := H6.out.2.1.cells Hn2.out hjl
          obtain ⟨g2, o2, rfl, hg2, b0, b1, b2⟩ := H6.out.1.cells Hn2.out hjl
          have hs6 := H6.out.2.2.1
          have hg1' : g1 < w6.heap.size := by omega
          obtain ⟨c, hc⟩ : ∃ c, l2[j] = c := ⟨_, rfl⟩
          rw [hc] at a0 a1 a2 b0 b1 b2
          obtain ⟨K, hK⟩ : ∃ K, textQ c.key = K := ⟨_, rfl⟩
          obtain ⟨V, hV⟩ : ∃ V, textQ c.val = V := ⟨_, rfl⟩
          obtain ⟨gn, hgn⟩ : ∃ gn, c.gone = gn := ⟨_, rfl⟩
          rw [hK] at a0 b0
          rw [hV] at a1 b1
          rw [hgn] at a2 b2
          have x0 := (hbr.cell (p := ⟨g1, o1 + j * 3, none⟩) hg1').trans a0
          have x1 := (hbr.cell (p := ⟨g1, o1 + j * 3 + 1, none⟩) hg1').trans a1
          have x2 := (hbr.cell (p := ⟨g1, o1 + j * 3 + 2, none⟩) hg1').trans a2
          have y0 := (hbr.cell (p := ⟨g2, o2 + j * 3, none⟩) hg2).trans b0
          have y1 := (hbr.cell (p := ⟨g2, o2 + j * 3 + 1, none⟩) hg2).trans b1
          have y2 := (hbr.cell (p := ⟨g2, o2 + j * 3 + 2, none⟩) hg2).trans b2
          have hz1 : g1 < wr.heap.size := by have := hbr.size; omega
          have hz2 : g2 < wr.heap.size := by have := hbr.size; omega
          clear a0 a1 a2 b0 b1 b2 hc hK hV hgn hjl hs6
          --@g
          go_wp2_with fail
          --@h
          go_quiet (fail)
          --@i
          have hb2 := below_drewN hbr nq
          clear hbr x0 x1 x2 y0 y1 y2
          go_wp2
          go_roundw
          case rel => exact ⟨j + 1, by omega, by go_num, hb2⟩
          case measure => simp [intOf]; omega
        · have hbw : Below w.heap.size w wr := H6.out.2.2.2.trans (hbr.mono H6.out.2.2.2.size)
          clear hbr H6
          rcases HTE.out with ⟨rfl, hfit, hT⟩ | rfl
          · have hpl := print_len l hfit
            have hpz := parse_any (printL l) (by have := Hl6.out; omega) wr
            rw [← hT] at hpz
            have hp4 : Calls Tryz.prog 11 #[.string T] wr fun e w' => ∃ az cz, e = .returned (.tuple #[.slice az i cz, .int .i64 0]) ∧ Hid (ChsAt w' w'.heap.size (.slice az i cz) (l.map Ch.norm) ∧ Below w.heap.size w w') := by
              refine hpz.mono ?_
              rintro e w' ⟨v, code, rfl, hb, hres⟩
              have hpp := parse_print l hfit _ (Nat.le_refl _)
              rcases hres with ⟨h0, _⟩ | ⟨l3, h0, rfl, hown⟩
              · rw [hpp] at h0
                cases h0
              · rw [hpp] at h0
                obtain rfl := Option.some.inj h0
                obtain ⟨az, cz, rfl⟩ := slice_of hown
                have hlm : (l.map Ch.norm).length = i := by rw [List.length_map]; exact Hn.out
                have hat := OwnC9.at hown
                rw [hlm] at hat ⊢
                exact ⟨az, cz, rfl, Lib.hid ⟨hat, hbw.trans (hb.mono hbw.size)⟩⟩
            clear hpl hpz hfit hT HTE hbw
            --@j
            go_wp2_with fail
            refine hp4.mono ?_
            rintro e w7 ⟨az, cz, rfl, H7⟩
            clear hp4
            go_wp2
            --@k
            go_loopw [17] (fun iv wr => ∃ j : Nat, j ≤ i ∧ iv = .int .i64 j ∧ Below w7.heap.size w7 wr) (fun iv _ => i - (intOf iv).toNat)
            case atStart => exact ⟨0, by omega, rfl, Below.refl _ _⟩
            case round =>
              obtain ⟨j, hj3, rfl, hbr⟩ := hrel
              have hbw7 := H7.out.2.size
              by_cases hlt3 : j < i
              · have hjl : j < l.length := by rw [Hn.out]; exact hlt3
                have hjm : j < (l.map Ch.norm).length := by rw [List.length_map]; exact hjl
                obtain ⟨g1, o1, rfl, hg1, a0, a1, a2⟩ := H7.out.1.cells (by rw [List.length_map]; exact Hn.out.symm) hjm
                obtain ⟨g2, o2, rfl, hg2, b0, b1, b2⟩ := Hch.out.cells Hn.out.symm hjl
                rw [List.getElem_map] at a0 a1 a2
                obtain ⟨c, hc⟩ : ∃ c, l[j] = c := ⟨_, rfl⟩
                rw [hc] at a0 a1 a2 b0 b1 b2
                have hg2w : g2 < w7.heap.size := by omega
                have x0 : wr.cell? ⟨g1, o1 + j * 3, none⟩ = some (.string (textQ c.key)) := (hbr.cell (p := ⟨g1, o1 + j * 3, none⟩) hg1).trans a0
                have x1 : wr.cell? ⟨g1, o1 + j * 3 + 1, none⟩ = some (.string (textQ c.says)) := (hbr.cell (p := ⟨g1, o1 + j * 3 + 1, none⟩) hg1).trans a1
                have x2 : wr.cell? ⟨g1, o1 + j * 3 + 2, none⟩ = some (.bool c.gone) := (hbr.cell (p := ⟨g1, o1 + j * 3 + 2, none⟩) hg1).trans a2
                have y0 := (hbr.cell (p := ⟨g2, o2 + j * 3, none⟩) hg2w).trans ((H7.out.2.cell (p := ⟨g2, o2 + j * 3, none⟩) hg2).trans b0)
                have y1 := (hbr.cell (p := ⟨g2, o2 + j * 3 + 1, none⟩) hg2w).trans ((H7.out.2.cell (p := ⟨g2, o2 + j * 3 + 1, none⟩) hg2).trans b1)
                have y2 := (hbr.cell (p := ⟨g2, o2 + j * 3 + 2, none⟩) hg2w).trans ((H7.out.2.cell (p := ⟨g2, o2 + j * 3 + 2, none⟩) hg2).trans b2)
                have hz1 : g1 < wr.heap.size := by have := hbr.size; omega
                have hz2 : g2 < wr.heap.size := by have := hbr.size; omega
                obtain ⟨K, hK⟩ : ∃ K, textQ c.key = K := ⟨_, rfl⟩
                obtain ⟨V, hV⟩ : ∃ V, textQ c.val = V := ⟨_, rfl⟩
                obtain ⟨gn, hgn⟩ : ∃ gn, c.gone = gn := ⟨_, rfl⟩
                rw [hK] at x0 y0
                rw [hV] at y1
                rw [hgn] at x2 y2
                cases gn with
                | false =>
                  have hsy : textQ c.says = V := by
                    unfold Ch.says
                    rw [hgn]
                    exact hV
                  rw [hsy] at x1
                  clear a0 a1 a2 b0 b1 b2 hc hK hV hgn hjl hjm hsy hg2w hbw7
                  --@l
                  go_wp2_with fail
                  go_quiet (fail)
                  --@m
                  have hb2 := below_drewN hbr nq
                  clear hbr x0 x1 x2 y0 y1 y2
                  go_wp2
                  go_roundw
                  case rel => exact ⟨j + 1, by omega, by go_num, hb2⟩
                  case measure => simp [intOf]; omega
                | true =>
                  have hsy : textQ c.says = ⟨#[]⟩ := by
                    unfold Ch.says
                    rw [hgn]
                    rfl
                  rw [hsy] at x1
                  clear a0 a1 a2 b0 b1 b2 hc hK hV hgn hjl hjm hsy hg2w hbw7
                  --@n
                  go_wp2_with fail
                  go_quiet (fail)
                  --@o
                  have hb2 := below_drewN hbr nq
                  clear hbr x0 x1 x2 y0 y1 y2
                  go_wp2
                  go_roundw
                  case rel => exact ⟨j + 1, by omega, by go_num, hb2⟩
                  case measure => simp [intOf]; omega
              · have hbe := H7.out.2.trans (hbr.mono hbw7)
                clear hbr
                go_wp2
                go_ret
                exact ⟨rfl, hbe⟩
          · clear HTE
            go_wp2
            go_ret
            exact ⟨rfl, hbw⟩
end Go.Proofs.YtcjmpkfcjcoobaaGreat
