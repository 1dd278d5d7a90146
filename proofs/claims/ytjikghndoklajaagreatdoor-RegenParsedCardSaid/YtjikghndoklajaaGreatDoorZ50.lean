/-
  Texts of this proof, put together: WkReg.
-/
import Derived.Test.YtjikghndoklajaaGreatDoorZ49
import Derived.Test.YtjikghndoklajaaGreatDoorZ17
import Derived.Deep.RegionHeldLaw
namespace Go.Proofs.YtjikghndoklajaaGreatDoor
open Go.RowKit

set_option maxRecDepth 100000 in
set_option maxHeartbeats 8000000 in
theorem regen_walk (s : ByteArray) (m : Int) (w : World) (hm : w.cell? ⟨0, 0, none⟩ = some (.int .i64 m)) (ht : PowIs w) (hs : s.size ≤ maxLen) :
    Calls Tryz.prog 3 #[.string s] w fun e w' => e = .returned (.bool true) ∧ Below w.heap.size w w' := by
  have haw := awake14_any m w ht hm
  have HM : Hid (∀ W, Below w.heap.size w W → PowIs W ∧ W.cell? ⟨0, 0, none⟩ = some (.int .i64 m)) := Lib.hid fun W hW => ⟨pow_below ht hW, bound_abide hm hW⟩
  unfold maxLen at hs
  clear hm ht
  go_enter Tryz.func3, Tryz.ntmps3
  go_wp2_with fail
  refine haw.mono ?_
  rintro e w1 ⟨rfl, hw1⟩
  have B1 := Lib.hid hw1
  clear haw hw1
  by_cases h1 : 5000 < s.size
  · have h1i : (5000 : Int) < (s.size : Int) := by omega
    clear h1
    go_wp2
    go_ret
    exact ⟨rfl, B1.out⟩
  · have h1i : (s.size : Int) ≤ 5000 := by omega
    have hp0 := mparse_any s m w1 (by omega) (HM.out w1 B1.out).2
    obtain ⟨⟨p, er⟩, hr⟩ : ∃ r, parseM s.data.toList = r := ⟨_, rfl⟩
    unfold ParsePostM at hp0
    rw [hr] at hp0
    obtain ⟨X, hX⟩ : ∃ X, textQ p.typ.1 = X := ⟨_, rfl⟩
    obtain ⟨Y, hY⟩ : ∃ Y, textQ p.typ.2.1 = Y := ⟨_, rfl⟩
    obtain ⟨D, hD⟩ : ∃ D, textQ p.body = D := ⟨_, rfl⟩
    have hp : Calls Tryz.prog 5 #[.string s] w1 fun e w' => ∃ a1 n1 c1 a2 n2 c2 a3 n3 c3, e = .returned (.tuple #[.agg #[.slice a1 n1 c1, .string X, .string Y, .slice a2 n2 c2, .string D, .slice a3 n3 c3], .int .i64 er]) ∧ Hid (TreeAt w' w'.heap.size p (.slice a1 n1 c1) (.slice a2 n2 c2) (.slice a3 n3 c3) ∧ Below w1.heap.size w1 w') := hp0.mono fun e w' ⟨fv, pv, rv, h1, h2, h3⟩ => by
      obtain ⟨⟨a1, n1, c1, rfl⟩, ⟨a2, n2, c2, rfl⟩, ⟨a3, n3, c3, rfl⟩⟩ := h2.slices
      exact ⟨a1, n1, c1, a2, n2, c2, a3, n3, c3, by rw [h1, ← hX, ← hY, ← hD]; rfl, Lib.hid ⟨h2.at, h3⟩⟩
    have HR := Lib.hid hr
    have HX := Lib.hid (And.intro hX (And.intro hY hD))
    clear hp0 hr hX hY hD h1 hs
    go_wp2_with fail
    refine hp.mono ?_
    rintro e w2 ⟨a1, n1, c1, a2, n2, c2, a3, n3, c3, rfl, hx⟩
    obtain ⟨w3, hw3⟩ : ∃ W, w2.alloc (.cells #[.slice a1 n1 c1, .string X, .string Y, .slice a2 n2 c2, .string D, .slice a3 n3 c3] 29) = W := ⟨_, rfl⟩
    have l3 : Below w2.heap.size w2 w3 := by rw [← hw3]; exact (Below.refl _ _).alloc (Nat.le_refl _) _
    have p3 : PrtAt w3 w2.heap.size (.slice a1 n1 c1) (.string X) (.string Y) (.slice a2 n2 c2) (.string D) (.slice a3 n3 c3) := by rw [← hw3]; exact prt_new w2 _ _ _ _ _ _
    obtain ⟨x0, x1, x2, x3, x4, x5, _⟩ := p3.cells
    have K3 : Hid (TreeAt w3 w3.heap.size p (.slice a1 n1 c1) (.slice a2 n2 c2) (.slice a3 n3 c3) ∧ Below w.heap.size w w3 ∧ PrtAt w3 w2.heap.size (.slice a1 n1 c1) (.string X) (.string Y) (.slice a2 n2 c2) (.string D) (.slice a3 n3 c3)) := Lib.hid (by
      obtain ⟨k1, k2⟩ := hx.out
      have b13 := k2.trans (l3.mono k2.size)
      exact ⟨(k1.below l3 (Nat.le_refl _)).up l3.size, B1.out.trans (b13.mono B1.out.size), p3⟩)
    clear hp hx l3 p3
    by_cases he : er = 0
    · subst he
      have hg := parse_good (s := s.data.toList) (by rw [HR.out])
      have hf := parse_form (s := s.data.toList) (by rw [HR.out])
      have hl := (tree_lim HR.out).2
      have hll : s.data.toList.length ≤ 90000 := (show s.size ≤ 90000 by omega)
      have hpl := parsed_laid (s := s.data.toList) (by rw [HR.out])
      rw [HR.out] at hg hf hpl
      replace hg : 1 ≤ countM p ∧ countM p ≤ 16 ∧ goodM 4 p := hg
      have hpr := gprint_any w3.heap.size m p _ _ _ w3 K3.out.1 (Nat.le_refl _) (HM.out w3 K3.out.2.1).1 (HM.out w3 K3.out.2.1).2 hf (fun q hq => (hl q hq).up hll) hg.2.2 hg.2.1
      have hly := layd_says p hf
      unfold partV at hpr
      rw [HX.out.1, HX.out.2.1, HX.out.2.2] at hpr
      replace hpl : layD p = ((nilM, []), 3) ∨ ((layD p).2 = 0 ∧ parseM (layD p).1.2 = ((layD p).1.1, 0) ∧ (leavesM (layD p).1.1).map TreeM.body = (leavesM p).map TreeM.body) := hpl
      by_cases h3 : layD p = ((nilM, []), 3)
      · rw [h3] at hpr
        replace hpr : Calls Tryz.prog 6 #[.agg #[.slice a1 n1 c1, .string X, .string Y, .slice a2 n2 c2, .string D, .slice a3 n3 c3]] w3 fun e w' => e = .returned (.tuple #[.string ⟨#[]⟩, .int .i64 3]) ∧ Below w3.heap.size w3 w' := hpr
        clear hg hf hl hll hpl hly h3
        go_wp2_with fail
        refine hpr.mono ?_
        rintro e w4 ⟨rfl, hb⟩
        have Fin := Lib.hid (K3.out.2.1.trans (hb.mono K3.out.2.1.size))
        clear hpr hb K3
        go_wp2
        go_ret
        exact ⟨rfl, Fin.out⟩
      · obtain ⟨h0, h4, h5⟩ := hpl.resolve_left h3
        obtain ⟨_, _, h6⟩ := hly.resolve_left h3
        rw [h0] at hpr
        obtain ⟨t, hts⟩ : ∃ t, (layD p).1.2 = t := ⟨_, rfl⟩
        obtain ⟨q, hq⟩ : ∃ q, (layD p).1.1 = q := ⟨_, rfl⟩
        rw [hts] at hpr h4 h6
        rw [hq] at h4 h5
        obtain ⟨TT, hTT⟩ : ∃ TT, textQ t = TT := ⟨_, rfl⟩
        rw [hTT] at hpr
        have hTs : TT.size ≤ 1000000 := by
          rw [← hTT]
          show t.length ≤ _
          omega
        have hTl : TT.data.toList = t := by rw [← hTT]; rfl
        obtain ⟨X2, hX2⟩ : ∃ X, textQ q.typ.1 = X := ⟨_, rfl⟩
        obtain ⟨Y2, hY2⟩ : ∃ Y, textQ q.typ.2.1 = Y := ⟨_, rfl⟩
        obtain ⟨D2, hD2⟩ : ∃ D, textQ q.body = D := ⟨_, rfl⟩
        have hpq : Hid (∀ W, Below w.heap.size w W → Calls Tryz.prog 5 #[.string TT] W fun e w' => ∃ e1 k1 d1 e2 k2 d2 e3 k3 d3, e = .returned (.tuple #[.agg #[.slice e1 k1 d1, .string X2, .string Y2, .slice e2 k2 d2, .string D2, .slice e3 k3 d3], .int .i64 0]) ∧ Hid (TreeAt w' w'.heap.size q (.slice e1 k1 d1) (.slice e2 k2 d2) (.slice e3 k3 d3) ∧ Below W.heap.size W w')) := Lib.hid fun W hW => by
          have h := mparse_any TT m W hTs (HM.out W hW).2
          unfold ParsePostM at h
          rw [hTl, h4] at h
          refine h.mono ?_
          rintro e w' ⟨fv, pv, rv, h1, h2, h3⟩
          obtain ⟨⟨a1, n1, c1, rfl⟩, ⟨a2, n2, c2, rfl⟩, ⟨a3, n3, c3, rfl⟩⟩ := h2.slices
          exact ⟨a1, n1, c1, a2, n2, c2, a3, n3, c3, by rw [h1, ← hX2, ← hY2, ← hD2]; rfl, Lib.hid ⟨h2.at, h3⟩⟩
        have hgq := parse_good (s := t) (by rw [h4])
        rw [h4] at hgq
        replace hgq : 1 ≤ countM q ∧ countM q ≤ 16 ∧ goodM 4 q := hgq
        have HLq : Hid (∀ W e1 k1 d1 e2 k2 d2 e3 k3 d3, TreeAt W W.heap.size q (.slice e1 k1 d1) (.slice e2 k2 d2) (.slice e3 k3 d3) → Calls Tryz.prog 7 #[.agg #[.slice e1 k1 d1, .string X2, .string Y2, .slice e2 k2 d2, .string D2, .slice e3 k3 d3]] W fun e w' => ∃ bo nb cb, e = .returned (.slice bo nb cb) ∧ Hid (Below W.heap.size W w' ∧ PartsP w' (fun g => W.heap.size ≤ g) (.slice bo nb cb) (leavesM q))) := Lib.hid fun W _ _ _ _ _ _ _ _ _ hT => by
          have h := mleaves_any W.heap.size q _ _ _ W hT (Nat.le_refl _) (by omega) (tree_ok h4)
          unfold partV at h
          rw [hX2, hY2, hD2] at h
          refine h.mono ?_
          rintro e w' ⟨v, rfl, hv, hb⟩
          obtain ⟨bo, cb, rfl, _⟩ := hv.slice
          exact ⟨bo, _, cb, rfl, Lib.hid ⟨hb, hv⟩⟩
        have HLp : Hid (∀ W, TreeAt W W.heap.size p (.slice a1 n1 c1) (.slice a2 n2 c2) (.slice a3 n3 c3) → Calls Tryz.prog 7 #[.agg #[.slice a1 n1 c1, .string X, .string Y, .slice a2 n2 c2, .string D, .slice a3 n3 c3]] W fun e w' => ∃ bo nb cb, e = .returned (.slice bo nb cb) ∧ Hid (Below W.heap.size W w' ∧ PartsP w' (fun g => W.heap.size ≤ g) (.slice bo nb cb) (leavesM p))) := Lib.hid fun W hT => by
          have h := mleaves_any W.heap.size p _ _ _ W hT (Nat.le_refl _) (by omega) (tree_ok HR.out)
          unfold partV at h
          rw [HX.out.1, HX.out.2.1, HX.out.2.2] at h
          refine h.mono ?_
          rintro e w' ⟨v, rfl, hv, hb⟩
          obtain ⟨bo, cb, rfl, _⟩ := hv.slice
          exact ⟨bo, _, cb, rfl, Lib.hid ⟨hb, hv⟩⟩
        have HBo := Lib.hid h5
        clear hg hf hl hll hpl hly h3 h0 h4 h5 h6 hts hq hTT hTs hTl hX2 hY2 hD2 hgq
        go_wp2_with fail
        refine hpr.mono ?_
        rintro e w4 ⟨rfl, hb⟩
        have B4 := Lib.hid (And.intro hb (K3.out.2.1.trans (hb.mono K3.out.2.1.size)))
        have hp4 := hpq.out w4 B4.out.2
        clear hpr hb x0 x1 x2 x3 x4 x5 hpq
        go_wp2_with fail
        refine hp4.mono ?_
        rintro e w5 ⟨e1, k1, d1, e2, k2, d2, e3, k3, d3, rfl, hz⟩
        obtain ⟨w6, hw6⟩ : ∃ W, w5.alloc (.cells #[.slice e1 k1 d1, .string X2, .string Y2, .slice e2 k2 d2, .string D2, .slice e3 k3 d3] 29) = W := ⟨_, rfl⟩
        have l6 : Below w5.heap.size w5 w6 := by rw [← hw6]; exact (Below.refl _ _).alloc (Nat.le_refl _) _
        have p6 : PrtAt w6 w5.heap.size (.slice e1 k1 d1) (.string X2) (.string Y2) (.slice e2 k2 d2) (.string D2) (.slice e3 k3 d3) := by rw [← hw6]; exact prt_new w5 _ _ _ _ _ _
        have b46 := hz.out.2.trans (l6.mono hz.out.2.size)
        have b36 := B4.out.1.trans (b46.mono B4.out.1.size)
        have B6 := Lib.hid (And.intro (B4.out.2.trans (b46.mono B4.out.2.size)) (And.intro b36 (And.intro (K3.out.2.2.below b36) (And.intro p6 (And.intro ((K3.out.1.below b36 (Nat.le_refl _)).up b36.size) ((hz.out.1.below l6 (Nat.le_refl _)).up l6.size))))))
        have KS : Hid (∀ W, Below w6.heap.size w6 W → W.cell? ⟨w2.heap.size, 0, none⟩ = some (.slice a1 n1 c1) ∧ W.cell? ⟨w2.heap.size, 1, none⟩ = some (.string X) ∧ W.cell? ⟨w2.heap.size, 2, none⟩ = some (.string Y) ∧ W.cell? ⟨w2.heap.size, 3, none⟩ = some (.slice a2 n2 c2) ∧ W.cell? ⟨w2.heap.size, 4, none⟩ = some (.string D) ∧ W.cell? ⟨w2.heap.size, 5, none⟩ = some (.slice a3 n3 c3) ∧ W.cell? ⟨w5.heap.size, 0, none⟩ = some (.slice e1 k1 d1) ∧ W.cell? ⟨w5.heap.size, 1, none⟩ = some (.string X2) ∧ W.cell? ⟨w5.heap.size, 2, none⟩ = some (.string Y2) ∧ W.cell? ⟨w5.heap.size, 3, none⟩ = some (.slice e2 k2 d2) ∧ W.cell? ⟨w5.heap.size, 4, none⟩ = some (.string D2) ∧ W.cell? ⟨w5.heap.size, 5, none⟩ = some (.slice e3 k3 d3)) := Lib.hid fun W hW => by
          obtain ⟨t0, t1, t2, t3, t4, t5, _⟩ := (B6.out.2.2.1.below hW).cells
          obtain ⟨u0, u1, u2, u3, u4, u5, _⟩ := (B6.out.2.2.2.1.below hW).cells
          exact ⟨t0, t1, t2, t3, t4, t5, u0, u1, u2, u3, u4, u5⟩
        have HLa : Hid (∀ W, Below w6.heap.size w6 W → Calls Tryz.prog 7 #[.agg #[.slice a1 n1 c1, .string X, .string Y, .slice a2 n2 c2, .string D, .slice a3 n3 c3]] W fun e w' => ∃ bo nb cb, e = .returned (.slice bo nb cb) ∧ Hid (Below W.heap.size W w' ∧ PartsP w' (fun g => W.heap.size ≤ g) (.slice bo nb cb) (leavesM p))) := Lib.hid fun W hW => HLp.out W ((B6.out.2.2.2.2.1.below hW (Nat.le_refl _)).up hW.size)
        have HLb : Hid (∀ W, Below w6.heap.size w6 W → Calls Tryz.prog 7 #[.agg #[.slice e1 k1 d1, .string X2, .string Y2, .slice e2 k2 d2, .string D2, .slice e3 k3 d3]] W fun e w' => ∃ bo nb cb, e = .returned (.slice bo nb cb) ∧ Hid (Below W.heap.size W w' ∧ PartsP w' (fun g => W.heap.size ≤ g) (.slice bo nb cb) (leavesM q))) := Lib.hid fun W hW => HLq.out W _ _ _ _ _ _ _ _ _ ((B6.out.2.2.2.2.2.below hW (Nat.le_refl _)).up hW.size)
        obtain ⟨x0, x1, x2, x3, x4, x5, _⟩ := B6.out.2.2.1.cells
        obtain ⟨y0, y1, y2, y3, y4, y5, _⟩ := p6.cells
        clear hp4 hz l6 p6 b46 b36 B4 K3 HLp HLq HM HR HX B1
        go_wp2_with fail
        refine wp_region_held_drew (S := (fun W => W.cell? ⟨w2.heap.size, 0, none⟩ = some (.slice a1 n1 c1) ∧ W.cell? ⟨w2.heap.size, 1, none⟩ = some (.string X) ∧ W.cell? ⟨w2.heap.size, 2, none⟩ = some (.string Y) ∧ W.cell? ⟨w2.heap.size, 3, none⟩ = some (.slice a2 n2 c2) ∧ W.cell? ⟨w2.heap.size, 4, none⟩ = some (.string D) ∧ W.cell? ⟨w2.heap.size, 5, none⟩ = some (.slice a3 n3 c3) ∧ W.cell? ⟨w5.heap.size, 0, none⟩ = some (.slice e1 k1 d1) ∧ W.cell? ⟨w5.heap.size, 1, none⟩ = some (.string X2) ∧ W.cell? ⟨w5.heap.size, 2, none⟩ = some (.string Y2) ∧ W.cell? ⟨w5.heap.size, 3, none⟩ = some (.slice e2 k2 d2) ∧ W.cell? ⟨w5.heap.size, 4, none⟩ = some (.string D2) ∧ W.cell? ⟨w5.heap.size, 5, none⟩ = some (.slice e3 k3 d3))) (by kernel_rfl) (KS.out _ (Below.refl _ _).drew) (fun hHeld => ?_)
        refine' wpAnyH_take (i := 0) (v := ?v0r) ?hi0r (by kernel_rfl) (by kernel_rfl) (by kernel_rfl) ?hq0r (Or.inl ⟨?hw0r, ?hy0r⟩) (by assumption) ?hr0r
        case hi0r => (simp only [List.getElem?_toArray, List.getElem?_cons_zero]; exact rfl)
        case hq0r => exact fun _ _ _ h => h
        case hw0r => rfl
        case hy0r =>
          intro wz hz
          (try dsimp only at hz)
          go_simp
          all_goals with_reducible rfl
        try simp only [Act.put, List.setIfInBounds_toArray, List.set_cons_zero, List.set_cons_succ]
        refine' wpAnyH_take (i := 2) (v := ?v2r) ?hi2r (by kernel_rfl) (by kernel_rfl) (by kernel_rfl) ?hq2r (Or.inl ⟨?hw2r, ?hy2r⟩) (by assumption) ?hr2r
        case hi2r => (simp only [List.getElem?_toArray, List.getElem?_cons_zero, List.getElem?_cons_succ]; exact rfl)
        case hq2r => exact fun _ _ _ h => h
        case hw2r => rfl
        case hy2r =>
          intro wz hz
          (try dsimp only at hz)
          go_simp
          all_goals with_reducible rfl
        try simp only [Act.put, List.setIfInBounds_toArray, List.set_cons_zero, List.set_cons_succ]
        refine wpAnyH_ready (rs := [1]) (by kernel_rfl) (by simp) ?_
        refine AllReadyH.cons (o := ?hoa) ?hioa (fun Ka hKa => ?hsa) AllReadyH.nil
        case hioa => (simp only [List.getElem?_toArray, List.getElem?_cons_zero, List.getElem?_cons_succ]; exact rfl)
        case hsa =>
          go_simp
          go_at_call 7
          refine (HLa.out _ (Below.refl _ _).drew).mono ?_
          rintro e w7 ⟨ao, na, ca, rfl, hx⟩
          refine hKa.out _ _ (KS.out _ ((Below.refl _ w6).drew.trans hx.out.1)) (fun hHelda => ?_)
          try simp only [Act.put, List.setIfInBounds_toArray, List.set_cons_zero, List.set_cons_succ]
          refine wpAnyH_ready (rs := [3]) (by kernel_rfl) (by simp) ?_
          refine AllReadyH.cons (o := ?hob) ?hiob (fun Kb hKb => ?hsb) AllReadyH.nil
          case hiob => (simp only [List.getElem?_toArray, List.getElem?_cons_zero, List.getElem?_cons_succ]; exact rfl)
          case hsb =>
            go_simp
            go_at_call 7
            refine (HLb.out _ ((Below.refl _ w6).drew.trans hx.out.1)).mono ?_
            rintro e w8 ⟨bo, nb, cb, rfl, hy⟩
            have b68 := Lib.hid (((Below.refl _ w6).drew.trans hx.out.1).trans (hy.out.1.mono hx.out.1.size))
            refine hKb.out _ _ (KS.out _ b68.out) (fun hHeldb => ?_)
            try simp only [Act.put, List.setIfInBounds_toArray, List.set_cons_zero, List.set_cons_succ]
            refine' wpAnyH_take (i := 4) (v := ?v4b) ?hi4b (by kernel_rfl) (by kernel_rfl) (by kernel_rfl) ?hq4b (Or.inl ⟨?hw4b, ?hy4b⟩) (by assumption) ?hr4b
            case hi4b => (simp only [List.getElem?_toArray, List.getElem?_cons_zero, List.getElem?_cons_succ]; exact rfl)
            case hq4b => exact fun _ _ _ h => h
            case hw4b => rfl
            case hy4b =>
              intro wz hz
              (try dsimp only at hz)
              go_simp
              all_goals with_reducible rfl
            try simp only [Act.put, List.setIfInBounds_toArray, List.set_cons_zero, List.set_cons_succ]
            refine' wpAnyH_take (i := 5) (v := ?v5b) ?hi5b (by kernel_rfl) (by kernel_rfl) (by kernel_rfl) ?hq5b (Or.inl ⟨?hw5b, ?hy5b⟩) (by assumption) ?hr5b
            case hi5b => (simp only [List.getElem?_toArray, List.getElem?_cons_zero, List.getElem?_cons_succ]; exact rfl)
            case hq5b => exact fun _ _ _ h => h
            case hw5b => rfl
            case hy5b =>
              intro wz hz
              (try dsimp only at hz)
              go_simp
              all_goals with_reducible rfl
            try simp only [Act.put, List.setIfInBounds_toArray, List.set_cons_zero, List.set_cons_succ]
            refine wpAnyH_done (by kernel_rfl) ?_ _
            have hbo := HBo.out
            have hla : (leavesM p).length = na := by
              obtain ⟨_, _, h, _⟩ := hx.out.2.slice
              injection h with _ h
              exact h.symm
            have hlb : (leavesM q).length = nb := by
              obtain ⟨_, _, h, _⟩ := hy.out.2.slice
              injection h with _ h
              exact h.symm
            have hll := congrArg List.length hbo
            rw [List.length_map, List.length_map, hla, hlb] at hll
            subst hll
            have Ka : Hid (∀ i (hi : i < (leavesM p).length), ∃ g off g2 off2, ao = some ⟨g, off, none⟩ ∧ bo = some ⟨g2, off2, none⟩ ∧ g < w8.heap.size ∧ g2 < w8.heap.size ∧ w8.cell? ⟨g, off + i * 6 + 4, none⟩ = some (.string (textQ (leavesM p)[i].body)) ∧ w8.cell? ⟨g2, off2 + i * 6 + 4, none⟩ = some (.string (textQ (leavesM p)[i].body))) := Lib.hid fun i hi => by
              have hiq : i < (leavesM q).length := by omega
              obtain ⟨g, off, _, _, _, h1, _, _, _, _, _, z4, _⟩ := hx.out.2.cells i hi
              obtain ⟨g2, off2, _, _, _, h2, _, _, _, _, _, v4, _⟩ := hy.out.2.cells i hiq
              have e : (leavesM q)[i].body = (leavesM p)[i].body := by
                have h := List.getElem_of_eq hbo (i := i) (by rw [List.length_map]; exact hiq)
                rw [List.getElem_map, List.getElem_map] at h
                exact h
              rw [e] at v4
              have hz := cell_ltP z4
              exact ⟨g, off, g2, off2, h1, h2, Nat.lt_of_lt_of_le hz hy.out.1.size, cell_ltP v4, (hy.out.1.cell (p := ⟨g, off + i * 6 + 4, none⟩) hz).trans z4, v4⟩
            have HN := Lib.hid hla
            have hnm : nb ≤ 9223372036854775807 := by
              obtain ⟨_, _, h, h1, h2⟩ := hx.out.2.slice
              injection h with _ h _
              unfold maxLen at h2
              omega
            have Fin := Lib.hid (B6.out.1.trans (b68.out.mono B6.out.1.size))
            clear KS HLa HLb hx hy b68 hbo hla hlb HBo B6 x0 x1 x2 x3 x4 x5 y0 y1 y2 y3 y4 y5
            go_wp2
            go_loopw [11] (fun iv wr => ∃ i : Nat, i ≤ nb ∧ iv = .int .i64 i ∧ Hid (Below w8.heap.size w8 wr)) (fun iv _ => nb - (intOf iv).toNat)
            case atStart => exact ⟨0, by omega, rfl, Lib.hid (Below.refl _ _)⟩
            case round =>
              obtain ⟨i, hi, rfl, hk⟩ := hrel
              by_cases hlt : i < nb
              · obtain ⟨g, off, g2, off2, rfl, rfl, hg, hg2, z4, v4⟩ := Ka.out i (by rw [HN.out]; exact hlt)
                replace z4 := (hk.out.cell (p := ⟨g, off + i * 6 + 4, none⟩) hg).trans z4
                replace v4 := (hk.out.cell (p := ⟨g2, off2 + i * 6 + 4, none⟩) hg2).trans v4
                obtain ⟨T, hT⟩ : ∃ T, textQ ((leavesM p)[i]'(by rw [HN.out]; exact hlt)).body = T := ⟨_, rfl⟩
                rw [hT] at z4 v4
                clear hT hg hg2
                go_wp2_with fail
                refine wp_region_held_drew (S := (fun W => W.cell? ⟨g, off + i * 6 + 4, none⟩ = some (.string T) ∧ W.cell? ⟨g2, off2 + i * 6 + 4, none⟩ = some (.string T))) (by kernel_rfl) ⟨z4, v4⟩ (fun hHeld => ?_)
                refine' wpAnyH_take (i := 0) (v := ?v0q) ?hi0q (by kernel_rfl) (by kernel_rfl) (by kernel_rfl) ?hq0q (Or.inl ⟨?hw0q, ?hy0q⟩) (by assumption) ?hr0q
                case hi0q => (simp only [List.getElem?_toArray, List.getElem?_cons_zero]; exact rfl)
                case hq0q => exact fun _ _ _ h => h
                case hw0q => rfl
                case hy0q =>
                  intro wz hz
                  (try dsimp only at hz)
                  go_simp
                  all_goals with_reducible rfl
                try simp only [Act.put, List.setIfInBounds_toArray, List.set_cons_zero, List.set_cons_succ]
                refine' wpAnyH_take (i := 1) (v := ?v1q) ?hi1q (by kernel_rfl) (by kernel_rfl) (by kernel_rfl) ?hq1q (Or.inl ⟨?hw1q, ?hy1q⟩) (by assumption) ?hr1q
                case hi1q => (simp only [List.getElem?_toArray, List.getElem?_cons_zero, List.getElem?_cons_succ]; exact rfl)
                case hq1q => exact fun _ _ _ h => h
                case hw1q => rfl
                case hy1q =>
                  intro wz hz
                  (try dsimp only at hz)
                  go_simp
                  all_goals with_reducible rfl
                try simp only [Act.put, List.setIfInBounds_toArray, List.set_cons_zero, List.set_cons_succ]
                refine' wpAnyH_take (i := 2) (v := ?v2q) ?hi2q (by kernel_rfl) (by kernel_rfl) (by kernel_rfl) ?hq2q (Or.inl ⟨?hw2q, ?hy2q⟩) (by assumption) ?hr2q
                case hi2q => (simp only [List.getElem?_toArray, List.getElem?_cons_zero, List.getElem?_cons_succ]; exact rfl)
                case hq2q => exact fun _ _ _ h => h
                case hw2q => rfl
                case hy2q =>
                  intro wz hz
                  (try dsimp only at hz)
                  go_simp
                  all_goals with_reducible rfl
                try simp only [Act.put, List.setIfInBounds_toArray, List.set_cons_zero, List.set_cons_succ]
                refine' wpAnyH_take (i := 3) (v := ?v3q) ?hi3q (by kernel_rfl) (by kernel_rfl) (by kernel_rfl) ?hq3q (Or.inl ⟨?hw3q, ?hy3q⟩) (by assumption) ?hr3q
                case hi3q => (simp only [List.getElem?_toArray, List.getElem?_cons_zero, List.getElem?_cons_succ]; exact rfl)
                case hq3q => exact fun _ _ _ h => h
                case hw3q => rfl
                case hy3q =>
                  intro wz hz
                  (try dsimp only at hz)
                  go_simp
                  all_goals with_reducible rfl
                try simp only [Act.put, List.setIfInBounds_toArray, List.set_cons_zero, List.set_cons_succ]
                refine' wpAnyH_take (i := 4) (v := ?v4q) ?hi4q (by kernel_rfl) (by kernel_rfl) (by kernel_rfl) ?hq4q (Or.inl ⟨?hw4q, ?hy4q⟩) (by assumption) ?hr4q
                case hi4q => (simp only [List.getElem?_toArray, List.getElem?_cons_zero, List.getElem?_cons_succ]; exact rfl)
                case hq4q => exact fun _ _ _ h => h
                case hw4q => rfl
                case hy4q =>
                  intro wz hz
                  (try dsimp only at hz)
                  go_simp
                  all_goals with_reducible rfl
                try simp only [Act.put, List.setIfInBounds_toArray, List.set_cons_zero, List.set_cons_succ]
                refine' wpAnyH_take (i := 5) (v := ?v5q) ?hi5q (by kernel_rfl) (by kernel_rfl) (by kernel_rfl) ?hq5q (Or.inl ⟨?hw5q, ?hy5q⟩) (by assumption) ?hr5q
                case hi5q => (simp only [List.getElem?_toArray, List.getElem?_cons_zero, List.getElem?_cons_succ]; exact rfl)
                case hq5q => exact fun _ _ _ h => h
                case hw5q => rfl
                case hy5q =>
                  intro wz hz
                  (try dsimp only at hz)
                  go_simp
                  all_goals with_reducible rfl
                try simp only [Act.put, List.setIfInBounds_toArray, List.set_cons_zero, List.set_cons_succ]
                refine' wpAnyH_take (i := 6) (v := ?v6q) ?hi6q (by kernel_rfl) (by kernel_rfl) (by kernel_rfl) ?hq6q (Or.inl ⟨?hw6q, ?hy6q⟩) (by assumption) ?hr6q
                case hi6q => (simp only [List.getElem?_toArray, List.getElem?_cons_zero, List.getElem?_cons_succ]; exact rfl)
                case hq6q => exact fun _ _ _ h => h
                case hw6q => rfl
                case hy6q =>
                  intro wz hz
                  (try dsimp only at hz)
                  go_simp
                  all_goals with_reducible rfl
                try simp only [Act.put, List.setIfInBounds_toArray, List.set_cons_zero, List.set_cons_succ]
                refine' wpAnyH_take (i := 7) (v := ?v7q) ?hi7q (by kernel_rfl) (by kernel_rfl) (by kernel_rfl) ?hq7q (Or.inl ⟨?hw7q, ?hy7q⟩) (by assumption) ?hr7q
                case hi7q => (simp only [List.getElem?_toArray, List.getElem?_cons_zero, List.getElem?_cons_succ]; exact rfl)
                case hq7q => exact fun _ _ _ h => h
                case hw7q => rfl
                case hy7q =>
                  intro wz hz
                  (try dsimp only at hz)
                  go_simp
                  all_goals with_reducible rfl
                try simp only [Act.put, List.setIfInBounds_toArray, List.set_cons_zero, List.set_cons_succ]
                refine' wpAnyH_take (i := 8) (v := ?v8q) ?hi8q (by kernel_rfl) (by kernel_rfl) (by kernel_rfl) ?hq8q (Or.inl ⟨?hw8q, ?hy8q⟩) (by assumption) ?hr8q
                case hi8q => (simp only [List.getElem?_toArray, List.getElem?_cons_zero, List.getElem?_cons_succ]; exact rfl)
                case hq8q => exact fun _ _ _ h => h
                case hw8q => rfl
                case hy8q =>
                  intro wz hz
                  (try dsimp only at hz)
                  go_simp
                  all_goals with_reducible rfl
                try simp only [Act.put, List.setIfInBounds_toArray, List.set_cons_zero, List.set_cons_succ]
                refine' wpAnyH_take (i := 9) (v := ?v9q) ?hi9q (by kernel_rfl) (by kernel_rfl) (by kernel_rfl) ?hq9q (Or.inl ⟨?hw9q, ?hy9q⟩) (by assumption) ?hr9q
                case hi9q => (simp only [List.getElem?_toArray, List.getElem?_cons_zero, List.getElem?_cons_succ]; exact rfl)
                case hq9q => exact fun _ _ _ h => h
                case hw9q => rfl
                case hy9q =>
                  intro wz hz
                  (try dsimp only at hz)
                  go_simp
                  all_goals with_reducible rfl
                try simp only [Act.put, List.setIfInBounds_toArray, List.set_cons_zero, List.set_cons_succ]
                refine' wpAnyH_take (i := 10) (v := ?v10q) ?hi10q (by kernel_rfl) (by kernel_rfl) (by kernel_rfl) ?hq10q (Or.inl ⟨?hw10q, ?hy10q⟩) (by assumption) ?hr10q
                case hi10q => (simp only [List.getElem?_toArray, List.getElem?_cons_zero, List.getElem?_cons_succ]; exact rfl)
                case hq10q => exact fun _ _ _ h => h
                case hw10q => rfl
                case hy10q =>
                  intro wz hz
                  (try dsimp only at hz)
                  go_simp
                  all_goals with_reducible rfl
                try simp only [Act.put, List.setIfInBounds_toArray, List.set_cons_zero, List.set_cons_succ]
                refine wpAnyH_done (by kernel_rfl) ?_ _
                have Hd := Lib.hid hk.out.drew
                clear hk z4 v4
                go_wp2
                go_roundw
                case rel => exact ⟨i + 1, by omega, by go_num, Hd⟩
                case measure => simp [intOf]; omega
              · obtain rfl : i = nb := by omega
                have Fin2 := Lib.hid (Fin.out.trans (hk.out.mono Fin.out.size))
                clear hk Ka
                go_wp2
                go_ret
                exact ⟨rfl, Fin2.out⟩
    · have hei : ((er : Int) != 0) = true := by simpa using he
      have Fin := Lib.hid K3.out.2.1
      clear he K3
      go_wp2
      go_ret
      exact ⟨rfl, Fin.out⟩
end Go.Proofs.YtjikghndoklajaaGreatDoor
