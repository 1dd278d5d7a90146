/-
  Texts of this proof, put together: RgK, RgL.
-/
import Derived.Test.YtjikghndoklajaaGreatDoorZ44
import Derived.Test.YtjikghndoklajaaGreatDoorZ39
import Derived.Test.YtjikghndoklajaaGreatDoorZ17
namespace Go.Proofs.YtjikghndoklajaaGreatDoor
open Go.RowKit

set_option maxRecDepth 100000 in
set_option maxHeartbeats 16000000 in
theorem ghown_any (B : Nat) (p : TreeM) (fv pv rv : Value) (w : World) (h : TreeAt w B p fv pv rv) (hB : B ≤ w.heap.size) (hp : PowIs w) (hf : ∀ x ∈ p.fields, rightB x = true)
    (hleaf : p.parts = [] → p.typ.1 ≠ multiM) (hmul : p.parts ≠ [] → p.typ.1 = multiM ∧ p.body = [] ∧ (hasC p.typ.2.2 boundM = true ∨ p.typ.2.2.length ≤ 7)) (hlim : LimP 90000 p) :
    Calls Tryz.prog 30 #[partV p fv pv rv] w fun e w' => e = .returned (.bool true) ∧ Below w.heap.size w w' := by
  have ht := hlim.ty
  obtain ⟨hsm, hl1, hl2⟩ := hlim.ok (by omega)
  obtain ⟨_, _, hp8, _⟩ := right_parts ht
  have hbr := fun h8 => bordered_right (b := boundR 0) ht (bound_val (by omega)) h8
  have hun := fun W (hW : Below w.heap.size w W) => munf_any B p fv pv rv W (h.below hW hB) (Nat.le_trans hB hW.size) (fun x hx => by have := hlim.ff x hx; omega) (by omega)
  have hcr := fun W (hW : Below w.heap.size w W) => cright_any B pv p.typ W (h.below hW hB).t (Nat.le_trans hB hW.size)
  have hwb : ∀ W (hW : Below w.heap.size w W), Calls Tryz.prog 47 #[.agg #[.string (textQ p.typ.1), .string (textQ p.typ.2.1), pv], .string (textQ (boundR 0))] W fun e W' => ∃ ua un uc, e = .returned (.agg #[.string (textQ p.typ.1), .string (textQ p.typ.2.1), .slice ua un uc]) ∧ Below W.heap.size W W' ∧ ParsAt W' W'.heap.size (.slice ua un uc) (putC (boundR 0) p.typ.2.2) := fun W hW =>
    (gwithb_any B pv p.typ (boundR 0) W (h.below hW hB).t (Nat.le_trans hB hW.size) hsm.2.1 (by omega)).mono fun e W' ⟨u, he, ho, hb⟩ => by
      obtain ⟨ua, uc, rfl⟩ := own_slice ho
      exact ⟨ua, _, uc, he, hb, ho.at⟩
  have hcr2 : ∀ W ua un uc, Hid (ParsAt W W.heap.size (.slice ua un uc) (putC (boundR 0) p.typ.2.2)) → Calls Tryz.prog 46 #[.agg #[.string (textQ p.typ.1), .string (textQ p.typ.2.1), .slice ua un uc]] W fun e W' => e = .returned (.bool (rightC (borderedR p.typ (boundR 0)))) ∧ Below W.heap.size W W' := fun W ua un uc hu =>
    cright_any W.heap.size (.slice ua un uc) (borderedR p.typ (boundR 0)) W hu.out (Nat.le_refl _)
  have HF := Lib.hid (fun W B' v (hv : FieldsOwn W B' v (unfieldM p.fields)) => gconf_none W.heap.size v (unfieldM p.fields) W hv.at (Nat.le_refl _) (fun x hx => hf x (List.mem_filter.1 hx).1) (fun x hx => by have := hlim.ff x (List.mem_filter.1 hx).1; omega))
  have hq : ((textQ p.typ.1).toList == [109, 117, 108, 116, 105, 112, 97, 114, 116]) = decide (p.typ.1 = multiM) := by
    rw [Lib.toList_data, show (textQ p.typ.1).data.toList = p.typ.1 from rfl]
    show (p.typ.1 == multiM) = _
    exact Bool.beq_eq_decide_eq _ _
  obtain ⟨⟨a1, n1, c1, rfl⟩, ⟨a2, n2, c2, rfl⟩, _⟩ := h.slices
  obtain ⟨a3, c3, rfl, hc3, hm3⟩ := h.len
  unfold maxLen at hm3
  obtain ⟨n3, hn3⟩ : ∃ n3, p.parts.length = n3 := ⟨_, rfl⟩
  rw [hn3] at hc3 hun ⊢
  have h03 : p.parts = [] ↔ n3 = 0 := by rw [← hn3]; exact List.length_eq_zero_iff.symm
  unfold partV at hun ⊢
  unfold typeV at hcr
  have hD0 : n3 ≠ 0 → textQ p.body = ⟨#[]⟩ := fun h => by rw [(hmul (fun e => h (h03.1 e))).2.1]; rfl
  obtain ⟨X, hX⟩ : ∃ X, textQ p.typ.1 = X := ⟨_, rfl⟩
  obtain ⟨Y, hY⟩ : ∃ X, textQ p.typ.2.1 = X := ⟨_, rfl⟩
  obtain ⟨D, hD⟩ : ∃ X, textQ p.body = X := ⟨_, rfl⟩
  simp only [hX, hY, hD] at hun
  simp only [hX, hY] at hcr
  simp only [hX, hY] at hwb
  simp only [hX, hY] at hcr2
  rw [hX] at hq
  rw [hD] at hD0
  rw [hX, hY, hD]
  rw [ht] at hcr
  obtain ⟨w1, hw1⟩ : ∃ w1, w.alloc (.cells #[.slice a1 n1 c1, .string X, .string Y, .slice a2 n2 c2, .string D, .slice a3 n3 c3] 29) = w1 := ⟨_, rfl⟩
  have b1 : Below w.heap.size w w1 := by rw [← hw1]; exact (Below.refl _ _).alloc (Nat.le_refl _) _
  have p1 : PrtAt w1 w.heap.size (.slice a1 n1 c1) (.string X) (.string Y) (.slice a2 n2 c2) (.string D) (.slice a3 n3 c3) := by rw [← hw1]; exact prt_new w _ _ _ _ _ _
  have hc1' := hcr w1 b1
  obtain ⟨y0, y1, y2, y3, y4, y5, _⟩ := p1.cells
  have Hun := Lib.hid hun
  have Hwb := Lib.hid hwb
  have Hcr2 := Lib.hid hcr2
  have HP := Lib.hid hp
  have HB := Lib.hid hbr
  have K1 := Lib.hid (And.intro b1 p1)
  have hmm : decide (p.typ.1 = multiM) = decide (n3 ≠ 0) := by
    by_cases h0 : n3 = 0
    · rw [decide_eq_false (hleaf (h03.2 h0)), decide_eq_false (fun h => h h0)]
    · rw [decide_eq_true (hmul (fun e => h0 (h03.1 e))).1, decide_eq_true h0]
  rw [hmm] at hq
  have H8 : Hid (n3 ≠ 0 → rightC (borderedR p.typ (boundR 0)) = true) := Lib.hid fun h => hbr (hmul (fun e => h (h03.1 e))).2.2
  clear h hun hwb hcr2 hp hbr hcr hX hY hD b1 p1 hmm hleaf hmul hf hn3 h03 hlim ht hsm hl1 hl2 hp8
  by_cases h0 : n3 = 0
  · subst h0
    rw [decide_eq_false (fun h => h rfl)] at hq
    go_enter Tryz.func30, Tryz.ntmps30
    go_wp2_with fail
    refine hc1'.mono ?_
    rintro e w2 ⟨rfl, hb⟩
    have K2 := Lib.hid (And.intro (K1.out.1.trans (hb.mono K1.out.1.size)) (K1.out.2.below hb))
    clear hc1' hb K1 y0 y1 y2 y3 y4 y5
    obtain ⟨y0, y1, y2, y3, y4, y5, _⟩ := K2.out.2.cells
    have hS : Hid (∀ W, Below w2.heap.size w2 W → W.cell? ⟨w.heap.size, 1, none⟩ = some (.string X) ∧ W.cell? ⟨w.heap.size, 2, none⟩ = some (.string Y) ∧ W.cell? ⟨w.heap.size, 3, none⟩ = some (.slice a2 n2 c2) ∧ W.cell? ⟨w.heap.size, 4, none⟩ = some (.string D) ∧ Below w2.heap.size w2 W) := Lib.hid fun W hW => by
      obtain ⟨_, q1, q2, q3, q4, _⟩ := (K2.out.2.below hW).cells
      exact ⟨q1, q2, q3, q4, hW⟩
    have hS0 := Lib.hid (hS.out w2 (Below.refl _ _))
    have hS1 := Lib.hid (hS.out _ (Below.refl w2.heap.size w2).drew)
    go_wp2_with fail
    refine wp_region_held_drew (S := (fun W => W.cell? ⟨w.heap.size, 1, none⟩ = some (.string X) ∧ W.cell? ⟨w.heap.size, 2, none⟩ = some (.string Y) ∧ W.cell? ⟨w.heap.size, 3, none⟩ = some (.slice a2 n2 c2) ∧ W.cell? ⟨w.heap.size, 4, none⟩ = some (.string D) ∧ Below w2.heap.size w2 W)) (by kernel_rfl) (by first | assumption | exact hS0.out | exact hS1.out) (fun hHeld => ?_)
    refine' wpAnyH_take (i := 0) (v := ?v0l) ?hi0l (by kernel_rfl) (by kernel_rfl) (by kernel_rfl) ?hq0l (Or.inl ⟨?hw0l, ?hy0l⟩) (by assumption) ?hr0l
    case hi0l => (simp only [List.getElem?_toArray, List.getElem?_cons_zero]; exact rfl)
    case hq0l => exact fun _ _ _ h => h
    case hw0l => rfl
    case hy0l =>
      intro wz hz
      (try dsimp only at hz)
      go_simp
      all_goals with_reducible rfl
    try simp only [Act.put, List.setIfInBounds_toArray, List.set_cons_zero, List.set_cons_succ]
    refine' wpAnyH_take (i := 1) (v := ?v1l) ?hi1l (by kernel_rfl) (by kernel_rfl) (by kernel_rfl) ?hq1l (Or.inl ⟨?hw1l, ?hy1l⟩) (by assumption) ?hr1l
    case hi1l => (simp only [List.getElem?_toArray, List.getElem?_cons_zero, List.getElem?_cons_succ]; exact rfl)
    case hq1l => exact fun _ _ _ h => h
    case hw1l => rfl
    case hy1l =>
      intro wz hz
      (try dsimp only at hz)
      go_simp
      all_goals with_reducible rfl
    try simp only [Act.put, List.setIfInBounds_toArray, List.set_cons_zero, List.set_cons_succ]
    refine' wpAnyH_take (i := 2) (v := undef) ?hi2l (by kernel_rfl) (by kernel_rfl) (by kernel_rfl) ?hq2l (Or.inr ⟨?hw2l, rfl⟩) (by assumption) ?hr2l
    case hi2l => (simp only [List.getElem?_toArray, List.getElem?_cons_zero, List.getElem?_cons_succ]; exact rfl)
    case hq2l => exact fun _ _ _ h => h
    case hw2l => rfl
    try simp only [Act.put, List.setIfInBounds_toArray, List.set_cons_zero, List.set_cons_succ]
    refine' wpAnyH_take (i := 3) (v := undef) ?hi3l (by kernel_rfl) (by kernel_rfl) (by kernel_rfl) ?hq3l (Or.inr ⟨?hw3l, rfl⟩) (by assumption) ?hr3l
    case hi3l => (simp only [List.getElem?_toArray, List.getElem?_cons_zero, List.getElem?_cons_succ]; exact rfl)
    case hq3l => exact fun _ _ _ h => h
    case hw3l => rfl
    try simp only [Act.put, List.setIfInBounds_toArray, List.set_cons_zero, List.set_cons_succ]
    refine' wpAnyH_take (i := 4) (v := undef) ?hi4l (by kernel_rfl) (by kernel_rfl) (by kernel_rfl) ?hq4l (Or.inr ⟨?hw4l, rfl⟩) (by assumption) ?hr4l
    case hi4l => (simp only [List.getElem?_toArray, List.getElem?_cons_zero, List.getElem?_cons_succ]; exact rfl)
    case hq4l => exact fun _ _ _ h => h
    case hw4l => rfl
    try simp only [Act.put, List.setIfInBounds_toArray, List.set_cons_zero, List.set_cons_succ]
    refine' wpAnyH_take (i := 5) (v := undef) ?hi5l (by kernel_rfl) (by kernel_rfl) (by kernel_rfl) ?hq5l (Or.inr ⟨?hw5l, rfl⟩) (by assumption) ?hr5l
    case hi5l => (simp only [List.getElem?_toArray, List.getElem?_cons_zero, List.getElem?_cons_succ]; exact rfl)
    case hq5l => exact fun _ _ _ h => h
    case hw5l => rfl
    try simp only [Act.put, List.setIfInBounds_toArray, List.set_cons_zero, List.set_cons_succ]
    refine' wpAnyH_take (i := 6) (v := undef) ?hi6l (by kernel_rfl) (by kernel_rfl) (by kernel_rfl) ?hq6l (Or.inr ⟨?hw6l, rfl⟩) (by assumption) ?hr6l
    case hi6l => (simp only [List.getElem?_toArray, List.getElem?_cons_zero, List.getElem?_cons_succ]; exact rfl)
    case hq6l => exact fun _ _ _ h => h
    case hw6l => rfl
    try simp only [Act.put, List.setIfInBounds_toArray, List.set_cons_zero, List.set_cons_succ]
    refine' wpAnyH_take (i := 7) (v := undef) ?hi7l (by kernel_rfl) (by kernel_rfl) (by kernel_rfl) ?hq7l (Or.inr ⟨?hw7l, rfl⟩) (by assumption) ?hr7l
    case hi7l => (simp only [List.getElem?_toArray, List.getElem?_cons_zero, List.getElem?_cons_succ]; exact rfl)
    case hq7l => exact fun _ _ _ h => h
    case hw7l => rfl
    try simp only [Act.put, List.setIfInBounds_toArray, List.set_cons_zero, List.set_cons_succ]
    refine' wpAnyH_take (i := 8) (v := undef) ?hi8l (by kernel_rfl) (by kernel_rfl) (by kernel_rfl) ?hq8l (Or.inr ⟨?hw8l, rfl⟩) (by assumption) ?hr8l
    case hi8l => (simp only [List.getElem?_toArray, List.getElem?_cons_zero, List.getElem?_cons_succ]; exact rfl)
    case hq8l => exact fun _ _ _ h => h
    case hw8l => rfl
    try simp only [Act.put, List.setIfInBounds_toArray, List.set_cons_zero, List.set_cons_succ]
    refine' wpAnyH_take (i := 9) (v := undef) ?hi9l (by kernel_rfl) (by kernel_rfl) (by kernel_rfl) ?hq9l (Or.inr ⟨?hw9l, rfl⟩) (by assumption) ?hr9l
    case hi9l => (simp only [List.getElem?_toArray, List.getElem?_cons_zero, List.getElem?_cons_succ]; exact rfl)
    case hq9l => exact fun _ _ _ h => h
    case hw9l => rfl
    try simp only [Act.put, List.setIfInBounds_toArray, List.set_cons_zero, List.set_cons_succ]
    refine' wpAnyH_take (i := 10) (v := undef) ?hi10l (by kernel_rfl) (by kernel_rfl) (by kernel_rfl) ?hq10l (Or.inr ⟨?hw10l, rfl⟩) (by assumption) ?hr10l
    case hi10l => (simp only [List.getElem?_toArray, List.getElem?_cons_zero, List.getElem?_cons_succ]; exact rfl)
    case hq10l => exact fun _ _ _ h => h
    case hw10l => rfl
    try simp only [Act.put, List.setIfInBounds_toArray, List.set_cons_zero, List.set_cons_succ]
    refine' wpAnyH_take (i := 11) (v := undef) ?hi11l (by kernel_rfl) (by kernel_rfl) (by kernel_rfl) ?hq11l (Or.inr ⟨?hw11l, rfl⟩) (by assumption) ?hr11l
    case hi11l => (simp only [List.getElem?_toArray, List.getElem?_cons_zero, List.getElem?_cons_succ]; exact rfl)
    case hq11l => exact fun _ _ _ h => h
    case hw11l => rfl
    try simp only [Act.put, List.setIfInBounds_toArray, List.set_cons_zero, List.set_cons_succ]
    refine' wpAnyH_take (i := 12) (v := undef) ?hi12l (by kernel_rfl) (by kernel_rfl) (by kernel_rfl) ?hq12l (Or.inr ⟨?hw12l, rfl⟩) (by assumption) ?hr12l
    case hi12l => (simp only [List.getElem?_toArray, List.getElem?_cons_zero, List.getElem?_cons_succ]; exact rfl)
    case hq12l => exact fun _ _ _ h => h
    case hw12l => rfl
    try simp only [Act.put, List.setIfInBounds_toArray, List.set_cons_zero, List.set_cons_succ]
    refine' wpAnyH_take (i := 13) (v := ?v13l) ?hi13l (by kernel_rfl) (by kernel_rfl) (by kernel_rfl) ?hq13l (Or.inl ⟨?hw13l, ?hy13l⟩) (by assumption) ?hr13l
    case hi13l => (simp only [List.getElem?_toArray, List.getElem?_cons_zero, List.getElem?_cons_succ]; exact rfl)
    case hq13l => exact fun _ _ _ h => h
    case hw13l => rfl
    case hy13l =>
      intro wz hz
      (try dsimp only at hz)
      go_simp
      all_goals with_reducible rfl
    try simp only [Act.put, List.setIfInBounds_toArray, List.set_cons_zero, List.set_cons_succ]
    refine wpAnyH_done (by kernel_rfl) ?_ _
    have HBX := hHeld.2.2.2.2
    clear hS hS0 hS1 y0 y1 y2 y3 y4 y5
    have T5 : Below w.heap.size w w2.drew ∧ PrtAt w2.drew w.heap.size (.slice a1 n1 c1) (.string X) (.string Y) (.slice a2 n2 c2) (.string D) (.slice a3 0 c3) := ⟨K2.out.1.trans (HBX.mono K2.out.1.size), K2.out.2.below HBX⟩
    have hun := Hun.out w2.drew T5.1
    have TT := Lib.hid T5
    obtain ⟨y0, y1, y2, y3, y4, y5, _⟩ := T5.2.cells
    clear T5
    go_wp2_with fail
    refine hun.mono ?_
    rintro e w6 ⟨fu, rfl, hof, hb6⟩
    obtain ⟨fa, fc, rfl⟩ := row_slice hof
    have hcon := HF.out w6 _ _ hof
    obtain ⟨fn, hfn⟩ : ∃ fn, (unfieldM p.fields).length = fn := ⟨_, rfl⟩
    rw [hfn] at hcon ⊢
    have B6 := Lib.hid (TT.out.1.trans (hb6.mono TT.out.1.size))
    clear hun hof hb6 y0 y1 y2 y3 y4 y5 hfn
    go_wp2_with fail
    refine hcon.mono ?_
    rintro e w7 ⟨rfl, hb7⟩
    have Fin := Lib.hid (B6.out.trans (hb7.mono B6.out.size))
    clear hcon hb7
    go_wp2
    go_ret
    exact ⟨rfl, Fin.out⟩
  · have hD1 := hD0 h0
    subst hD1
    have h8 := H8.out h0
    have h0' : 0 < n3 := by omega
    rw [decide_eq_true h0] at hq
    obtain ⟨Z, hZ⟩ : ∃ Z, textQ (boundR 0) = Z := ⟨_, rfl⟩
    have HZ := Lib.hid hZ
    have H8' := Lib.hid h8
    clear hZ h8 H8 hD0
    go_enter Tryz.func30, Tryz.ntmps30
    go_wp2_with fail
    refine hc1'.mono ?_
    rintro e w2 ⟨rfl, hb⟩
    have K2 := Lib.hid (And.intro (K1.out.1.trans (hb.mono K1.out.1.size)) (K1.out.2.below hb))
    clear hc1' hb K1 y0 y1 y2 y3 y4 y5
    obtain ⟨y0, y1, y2, y3, y4, y5, _⟩ := K2.out.2.cells
    have hS : Hid (∀ W, Below w2.heap.size w2 W → W.cell? ⟨w.heap.size, 1, none⟩ = some (.string X) ∧ W.cell? ⟨w.heap.size, 2, none⟩ = some (.string Y) ∧ W.cell? ⟨w.heap.size, 3, none⟩ = some (.slice a2 n2 c2) ∧ W.cell? ⟨w.heap.size, 4, none⟩ = some (.string ⟨#[]⟩) ∧ Below w2.heap.size w2 W) := Lib.hid fun W hW => by
      obtain ⟨_, q1, q2, q3, q4, _⟩ := (K2.out.2.below hW).cells
      exact ⟨q1, q2, q3, q4, hW⟩
    have hS0 := Lib.hid (hS.out w2 (Below.refl _ _))
    have hS1 := Lib.hid (hS.out _ (Below.refl w2.heap.size w2).drew)
    have HBd : Hid (∀ W, W.cell? ⟨w.heap.size, 1, none⟩ = some (.string X) ∧ W.cell? ⟨w.heap.size, 2, none⟩ = some (.string Y) ∧ W.cell? ⟨w.heap.size, 3, none⟩ = some (.slice a2 n2 c2) ∧ W.cell? ⟨w.heap.size, 4, none⟩ = some (.string ⟨#[]⟩) ∧ Below w2.heap.size w2 W → Calls Tryz.prog 48 #[.int .i64 0] W fun e W' => e = .returned (.string Z) ∧ (W'.cell? ⟨w.heap.size, 1, none⟩ = some (.string X) ∧ W'.cell? ⟨w.heap.size, 2, none⟩ = some (.string Y) ∧ W'.cell? ⟨w.heap.size, 3, none⟩ = some (.slice a2 n2 c2) ∧ W'.cell? ⟨w.heap.size, 4, none⟩ = some (.string ⟨#[]⟩) ∧ Below w2.heap.size w2 W')) := Lib.hid fun W hW =>
      (gbound_any 0 W (by omega) (pow_below HP.out (K2.out.1.trans (hW.2.2.2.2.mono K2.out.1.size)))).mono fun e W' ⟨he, hb⟩ => ⟨by rw [he, HZ.out], hS.out W' (hW.2.2.2.2.trans (hb.mono hW.2.2.2.2.size))⟩
    have HW : Hid (∀ W, W.cell? ⟨w.heap.size, 1, none⟩ = some (.string X) ∧ W.cell? ⟨w.heap.size, 2, none⟩ = some (.string Y) ∧ W.cell? ⟨w.heap.size, 3, none⟩ = some (.slice a2 n2 c2) ∧ W.cell? ⟨w.heap.size, 4, none⟩ = some (.string ⟨#[]⟩) ∧ Below w2.heap.size w2 W → Calls Tryz.prog 47 #[.agg #[.string X, .string Y, .slice a2 n2 c2], .string Z] W fun e W' => ∃ ua un uc, e = .returned (.agg #[.string X, .string Y, .slice ua un uc]) ∧ (W'.cell? ⟨w.heap.size, 1, none⟩ = some (.string X) ∧ W'.cell? ⟨w.heap.size, 2, none⟩ = some (.string Y) ∧ W'.cell? ⟨w.heap.size, 3, none⟩ = some (.slice a2 n2 c2) ∧ W'.cell? ⟨w.heap.size, 4, none⟩ = some (.string ⟨#[]⟩) ∧ Below w2.heap.size w2 W') ∧ Hid (ParsAt W' W'.heap.size (.slice ua un uc) (putC (boundR 0) p.typ.2.2))) := Lib.hid fun W hW => by
      have h1 := Hwb.out W (K2.out.1.trans (hW.2.2.2.2.mono K2.out.1.size))
      rw [HZ.out] at h1
      exact h1.mono fun e W' ⟨ua, un, uc, he, hb, ho⟩ => ⟨ua, un, uc, he, hS.out W' (hW.2.2.2.2.trans (hb.mono hW.2.2.2.2.size)), Lib.hid ho⟩
    have HR : Hid (∀ W ua un uc, W.cell? ⟨w.heap.size, 1, none⟩ = some (.string X) ∧ W.cell? ⟨w.heap.size, 2, none⟩ = some (.string Y) ∧ W.cell? ⟨w.heap.size, 3, none⟩ = some (.slice a2 n2 c2) ∧ W.cell? ⟨w.heap.size, 4, none⟩ = some (.string ⟨#[]⟩) ∧ Below w2.heap.size w2 W → Hid (ParsAt W W.heap.size (.slice ua un uc) (putC (boundR 0) p.typ.2.2)) → Calls Tryz.prog 46 #[.agg #[.string X, .string Y, .slice ua un uc]] W fun e W' => e = .returned (.bool true) ∧ (W'.cell? ⟨w.heap.size, 1, none⟩ = some (.string X) ∧ W'.cell? ⟨w.heap.size, 2, none⟩ = some (.string Y) ∧ W'.cell? ⟨w.heap.size, 3, none⟩ = some (.slice a2 n2 c2) ∧ W'.cell? ⟨w.heap.size, 4, none⟩ = some (.string ⟨#[]⟩) ∧ Below w2.heap.size w2 W')) := Lib.hid fun W ua un uc hW hu =>
      (Hcr2.out W ua un uc hu).mono fun e W' ⟨he, hb⟩ => ⟨by rw [he, H8'.out], hS.out W' (hW.2.2.2.2.trans (hb.mono hW.2.2.2.2.size))⟩
    go_wp2_with fail
    refine wp_region_held_drew (S := (fun W => W.cell? ⟨w.heap.size, 1, none⟩ = some (.string X) ∧ W.cell? ⟨w.heap.size, 2, none⟩ = some (.string Y) ∧ W.cell? ⟨w.heap.size, 3, none⟩ = some (.slice a2 n2 c2) ∧ W.cell? ⟨w.heap.size, 4, none⟩ = some (.string ⟨#[]⟩) ∧ Below w2.heap.size w2 W)) (by kernel_rfl) (by first | assumption | exact hS0.out | exact hS1.out) (fun hHeld => ?_)
    refine' wpAnyH_take (i := 0) (v := ?v0m) ?hi0m (by kernel_rfl) (by kernel_rfl) (by kernel_rfl) ?hq0m (Or.inl ⟨?hw0m, ?hy0m⟩) (by assumption) ?hr0m
    case hi0m => (simp only [List.getElem?_toArray, List.getElem?_cons_zero]; exact rfl)
    case hq0m => exact fun _ _ _ h => h
    case hw0m => rfl
    case hy0m =>
      intro wz hz
      (try dsimp only at hz)
      go_simp
      all_goals with_reducible rfl
    try simp only [Act.put, List.setIfInBounds_toArray, List.set_cons_zero, List.set_cons_succ]
    refine' wpAnyH_take (i := 1) (v := ?v1m) ?hi1m (by kernel_rfl) (by kernel_rfl) (by kernel_rfl) ?hq1m (Or.inl ⟨?hw1m, ?hy1m⟩) (by assumption) ?hr1m
    case hi1m => (simp only [List.getElem?_toArray, List.getElem?_cons_zero, List.getElem?_cons_succ]; exact rfl)
    case hq1m => exact fun _ _ _ h => h
    case hw1m => rfl
    case hy1m =>
      intro wz hz
      (try dsimp only at hz)
      go_simp
      all_goals with_reducible rfl
    try simp only [Act.put, List.setIfInBounds_toArray, List.set_cons_zero, List.set_cons_succ]
    refine' wpAnyH_take (i := 2) (v := ?v2m) ?hi2m (by kernel_rfl) (by kernel_rfl) (by kernel_rfl) ?hq2m (Or.inl ⟨?hw2m, ?hy2m⟩) (by assumption) ?hr2m
    case hi2m => (simp only [List.getElem?_toArray, List.getElem?_cons_zero, List.getElem?_cons_succ]; exact rfl)
    case hq2m => exact fun _ _ _ h => h
    case hw2m => rfl
    case hy2m =>
      intro wz hz
      (try dsimp only at hz)
      go_simp
      all_goals with_reducible rfl
    try simp only [Act.put, List.setIfInBounds_toArray, List.set_cons_zero, List.set_cons_succ]
    refine' wpAnyH_take (i := 3) (v := ?v3m) ?hi3m (by kernel_rfl) (by kernel_rfl) (by kernel_rfl) ?hq3m (Or.inl ⟨?hw3m, ?hy3m⟩) (by assumption) ?hr3m
    case hi3m => (simp only [List.getElem?_toArray, List.getElem?_cons_zero, List.getElem?_cons_succ]; exact rfl)
    case hq3m => exact fun _ _ _ h => h
    case hw3m => rfl
    case hy3m =>
      intro wz hz
      (try dsimp only at hz)
      go_simp
      all_goals with_reducible rfl
    try simp only [Act.put, List.setIfInBounds_toArray, List.set_cons_zero, List.set_cons_succ]
    refine' wpAnyH_take (i := 4) (v := ?v4m) ?hi4m (by kernel_rfl) (by kernel_rfl) (by kernel_rfl) ?hq4m (Or.inl ⟨?hw4m, ?hy4m⟩) (by assumption) ?hr4m
    case hi4m => (simp only [List.getElem?_toArray, List.getElem?_cons_zero, List.getElem?_cons_succ]; exact rfl)
    case hq4m => exact fun _ _ _ h => h
    case hw4m => rfl
    case hy4m =>
      intro wz hz
      (try dsimp only at hz)
      go_simp
      all_goals with_reducible rfl
    try simp only [Act.put, List.setIfInBounds_toArray, List.set_cons_zero, List.set_cons_succ]
    refine' wpAnyH_take (i := 5) (v := ?v5m) ?hi5m (by kernel_rfl) (by kernel_rfl) (by kernel_rfl) ?hq5m (Or.inl ⟨?hw5m, ?hy5m⟩) (by assumption) ?hr5m
    case hi5m => (simp only [List.getElem?_toArray, List.getElem?_cons_zero, List.getElem?_cons_succ]; exact rfl)
    case hq5m => exact fun _ _ _ h => h
    case hw5m => rfl
    case hy5m =>
      intro wz hz
      (try dsimp only at hz)
      go_simp
      all_goals with_reducible rfl
    try simp only [Act.put, List.setIfInBounds_toArray, List.set_cons_zero, List.set_cons_succ]
    refine' wpAnyH_take (i := 6) (v := ?v6m) ?hi6m (by kernel_rfl) (by kernel_rfl) (by kernel_rfl) ?hq6m (Or.inl ⟨?hw6m, ?hy6m⟩) (by assumption) ?hr6m
    case hi6m => (simp only [List.getElem?_toArray, List.getElem?_cons_zero, List.getElem?_cons_succ]; exact rfl)
    case hq6m => exact fun _ _ _ h => h
    case hw6m => rfl
    case hy6m =>
      intro wz hz
      (try dsimp only at hz)
      go_simp
      all_goals with_reducible rfl
    try simp only [Act.put, List.setIfInBounds_toArray, List.set_cons_zero, List.set_cons_succ]
    refine' wpAnyH_take (i := 7) (v := ?v7m) ?hi7m (by kernel_rfl) (by kernel_rfl) (by kernel_rfl) ?hq7m (Or.inl ⟨?hw7m, ?hy7m⟩) (by assumption) ?hr7m
    case hi7m => (simp only [List.getElem?_toArray, List.getElem?_cons_zero, List.getElem?_cons_succ]; exact rfl)
    case hq7m => exact fun _ _ _ h => h
    case hw7m => rfl
    case hy7m =>
      intro wz hz
      (try dsimp only at hz)
      go_simp
      all_goals with_reducible rfl
    try simp only [Act.put, List.setIfInBounds_toArray, List.set_cons_zero, List.set_cons_succ]
    refine wpAnyH_ready (rs := [8]) (by kernel_rfl) (by simp) ?_
    refine AllReadyH.cons (o := ?homB) ?hiomB (fun KmB hKmB => ?_) AllReadyH.nil
    case hiomB => (simp only [List.getElem?_toArray, List.getElem?_cons_zero, List.getElem?_cons_succ]; exact rfl)
    go_simp
    go_at_call 48
    with_reducible refine (HBd.out _ hHeld).mono ?_
    rintro e w3 ⟨rfl, hS3⟩
    refine hKmB.out _ _ hS3 (fun hHeldmB => ?_)
    try simp only [Act.put, List.setIfInBounds_toArray, List.set_cons_zero, List.set_cons_succ]
    refine wpAnyH_ready (rs := [9]) (by kernel_rfl) (by simp) ?_
    refine AllReadyH.cons (o := ?homW) ?hiomW (fun KmW hKmW => ?_) AllReadyH.nil
    case hiomW => (simp only [List.getElem?_toArray, List.getElem?_cons_zero, List.getElem?_cons_succ]; exact rfl)
    go_simp
    go_at_call 47
    with_reducible refine (HW.out _ hS3).mono ?_
    rintro e w4 ⟨ua, un, uc, rfl, hS4, hu4⟩
    refine hKmW.out _ _ hS4 (fun hHeldmW => ?_)
    try simp only [Act.put, List.setIfInBounds_toArray, List.set_cons_zero, List.set_cons_succ]
    refine wpAnyH_ready (rs := [10]) (by kernel_rfl) (by simp) ?_
    refine AllReadyH.cons (o := ?homR) ?hiomR (fun KmR hKmR => ?_) AllReadyH.nil
    case hiomR => (simp only [List.getElem?_toArray, List.getElem?_cons_zero, List.getElem?_cons_succ]; exact rfl)
    go_simp
    go_at_call 46
    with_reducible refine (HR.out _ _ _ _ hS4 hu4).mono ?_
    rintro e w5 ⟨rfl, hS5⟩
    refine hKmR.out _ _ hS5 (fun hHeldmR => ?_)
    try simp only [Act.put, List.setIfInBounds_toArray, List.set_cons_zero, List.set_cons_succ]
    refine' wpAnyH_take (i := 11) (v := ?v11m) ?hi11m (by kernel_rfl) (by kernel_rfl) (by kernel_rfl) ?hq11m (Or.inl ⟨?hw11m, ?hy11m⟩) (by assumption) ?hr11m
    case hi11m => (simp only [List.getElem?_toArray, List.getElem?_cons_zero, List.getElem?_cons_succ]; exact rfl)
    case hq11m => exact fun _ _ _ h => h
    case hw11m => rfl
    case hy11m =>
      intro wz hz
      (try dsimp only at hz)
      go_simp
      all_goals with_reducible rfl
    try simp only [Act.put, List.setIfInBounds_toArray, List.set_cons_zero, List.set_cons_succ]
    refine' wpAnyH_take (i := 12) (v := ?v12m) ?hi12m (by kernel_rfl) (by kernel_rfl) (by kernel_rfl) ?hq12m (Or.inl ⟨?hw12m, ?hy12m⟩) (by assumption) ?hr12m
    case hi12m => (simp only [List.getElem?_toArray, List.getElem?_cons_zero, List.getElem?_cons_succ]; exact rfl)
    case hq12m => exact fun _ _ _ h => h
    case hw12m => rfl
    case hy12m =>
      intro wz hz
      (try dsimp only at hz)
      go_simp
      all_goals with_reducible rfl
    try simp only [Act.put, List.setIfInBounds_toArray, List.set_cons_zero, List.set_cons_succ]
    refine' wpAnyH_take (i := 13) (v := ?v13m) ?hi13m (by kernel_rfl) (by kernel_rfl) (by kernel_rfl) ?hq13m (Or.inl ⟨?hw13m, ?hy13m⟩) (by assumption) ?hr13m
    case hi13m => (simp only [List.getElem?_toArray, List.getElem?_cons_zero, List.getElem?_cons_succ]; exact rfl)
    case hq13m => exact fun _ _ _ h => h
    case hw13m => rfl
    case hy13m =>
      intro wz hz
      (try dsimp only at hz)
      go_simp
      all_goals with_reducible rfl
    try simp only [Act.put, List.setIfInBounds_toArray, List.set_cons_zero, List.set_cons_succ]
    refine wpAnyH_done (by kernel_rfl) ?_ _
    have HBX := hHeldmR.2.2.2.2
    clear hS hS0 hS1 y0 y1 y2 y3 y4 y5
    clear HBd HW HR
    have T5 : Below w.heap.size w w5 ∧ PrtAt w5 w.heap.size (.slice a1 n1 c1) (.string X) (.string Y) (.slice a2 n2 c2) (.string ⟨#[]⟩) (.slice a3 n3 c3) := ⟨K2.out.1.trans (HBX.mono K2.out.1.size), K2.out.2.below HBX⟩
    have hun := Hun.out w5 T5.1
    have TT := Lib.hid T5
    obtain ⟨y0, y1, y2, y3, y4, y5, _⟩ := T5.2.cells
    clear T5
    go_wp2_with fail
    refine hun.mono ?_
    rintro e w6 ⟨fu, rfl, hof, hb6⟩
    obtain ⟨fa, fc, rfl⟩ := row_slice hof
    have hcon := HF.out w6 _ _ hof
    obtain ⟨fn, hfn⟩ : ∃ fn, (unfieldM p.fields).length = fn := ⟨_, rfl⟩
    rw [hfn] at hcon ⊢
    have B6 := Lib.hid (TT.out.1.trans (hb6.mono TT.out.1.size))
    clear hun hof hb6 y0 y1 y2 y3 y4 y5 hfn
    go_wp2_with fail
    refine hcon.mono ?_
    rintro e w7 ⟨rfl, hb7⟩
    have Fin := Lib.hid (B6.out.trans (hb7.mono B6.out.size))
    clear hcon hb7
    go_wp2
    go_ret
    exact ⟨rfl, Fin.out⟩
end Go.Proofs.YtjikghndoklajaaGreatDoor
namespace Go.Proofs.YtjikghndoklajaaGreatDoor
open Go.RowKit

theorem enter_form1 : ∀ args w, (callFunc 31 args).run Tryz.prog w = .ok (.enter 31 args) w := enters_of Tryz.func31 (by kernel_rfl) rfl
set_option maxRecDepth 100000 in
set_option maxHeartbeats 4000000 in
theorem gform1_any (p : TreeM) (fv pv rv : Value) (w : World) (hs : (∃ a n c, fv = .slice a n c) ∧ (∃ a n c, pv = .slice a n c) ∧ ∃ a n c, rv = .slice a n c)
    (hd : ∀ W, Below w.heap.size w W → Calls Tryz.prog 18 #[partV p fv pv rv] W fun e w' => e = .returned (.bool true) ∧ Below W.heap.size W w') :
    Calls Tryz.prog 31 #[partV p fv pv rv] w fun e w' => e = .returned (.bool false) ∧ Below w.heap.size w w' := by
  obtain ⟨⟨a1, n1, c1, rfl⟩, ⟨a2, n2, c2, rfl⟩, ⟨a3, n3, c3, rfl⟩⟩ := hs
  unfold partV at hd ⊢
  obtain ⟨X, hX⟩ : ∃ X, textQ p.typ.1 = X := ⟨_, rfl⟩
  obtain ⟨Y, hY⟩ : ∃ X, textQ p.typ.2.1 = X := ⟨_, rfl⟩
  obtain ⟨D, hD⟩ : ∃ X, textQ p.body = X := ⟨_, rfl⟩
  rw [hX, hY, hD] at hd ⊢
  obtain ⟨w1, hw1⟩ : ∃ w1, w.alloc (.cells #[.slice a1 n1 c1, .string X, .string Y, .slice a2 n2 c2, .string D, .slice a3 n3 c3] 29) = w1 := ⟨_, rfl⟩
  have b1 : Below w.heap.size w w1 := by rw [← hw1]; exact (Below.refl _ _).alloc (Nat.le_refl _) _
  have p1 : PrtAt w1 w.heap.size (.slice a1 n1 c1) (.string X) (.string Y) (.slice a2 n2 c2) (.string D) (.slice a3 n3 c3) := by rw [← hw1]; exact prt_new w _ _ _ _ _ _
  have hcall := hd w1 b1
  obtain ⟨y0, y1, y2, y3, y4, y5, _⟩ := p1.cells
  have B1 := Lib.hid b1
  clear hd hX hY hD b1 p1
  go_enter Tryz.func31, Tryz.ntmps31
  go_wp2_with fail
  refine hcall.mono ?_
  rintro e w2 ⟨rfl, hb⟩
  have Fin := Lib.hid (B1.out.trans (hb.mono B1.out.size))
  clear hb hcall
  go_wp2
  go_ret
  exact ⟨rfl, Fin.out⟩
theorem form_mem : ∀ {l : List TreeM}, FormsD l → ∀ p ∈ l, FormD p
  | [], _, p, hp => absurd hp (by simp)
  | q :: l, h, p, hp => by
    unfold FormsD at h
    rcases List.mem_cons.1 hp with rfl | hp
    · exact h.1
    · exact form_mem h.2 p hp
theorem form_eq (p : TreeM) : FormD p ↔ rightC p.typ = true ∧ (∀ x ∈ p.fields, rightB x = true) ∧ (p.parts = [] → p.typ.1 ≠ multiM) ∧ (p.parts ≠ [] → p.typ.1 = multiM ∧ p.body = [] ∧ (hasC p.typ.2.2 boundM = true ∨ p.typ.2.2.length ≤ 7)) ∧ FormsD p.parts := by
  obtain ⟨_, _, _, _⟩ := p
  rw [FormD]
  rfl
set_option maxRecDepth 100000 in
set_option maxHeartbeats 4000000 in
theorem gform_any (B : Nat) : ∀ (m : Nat) (p : TreeM) (fv pv rv : Value) (w : World), countM p ≤ m → TreeAt w B p fv pv rv → B ≤ w.heap.size → PowIs w → FormD p → (∀ q ∈ nodesM p, LimP 90000 q) →
    Calls Tryz.prog 18 #[partV p fv pv rv] w fun e w' => e = .returned (.bool true) ∧ Below w.heap.size w w'
  | 0, p, _, _, _, _, hm, _, _, _, _, _ => by
    have := count_pos p
    omega
  | m + 1, p, fv, pv, rv, w, hm, h, hB, hp, hf, hl => by
    have ih := gform_any B m
    obtain ⟨f1, f2, f3, f4, f5⟩ := (form_eq p).1 hf
    have hown := fun W (hW : Below w.heap.size w W) => ghown_any B p fv pv rv W (h.below hW hB) (Nat.le_trans hB hW.size) (pow_below hp hW) f2 f3 f4 (hl p (by rw [nodes_parts]; exact List.mem_cons_self))
    have hkids : ∀ W, Below w.heap.size w W → Calls Tryz.prog 27 #[rv, .func (.func 31) #[] #[]] W fun e w' => e = .returned (.bool false) ∧ Below W.heap.size W w' := fun W hW =>
      gconp_none 31 #[] enter_form1 B rv p.parts W (h.below hW hB).r (Nat.le_trans hB hW.size) (fun V i hi fv pv rv hV ht =>
        gform1_any p.parts[i] fv pv rv V ht.slices (fun U hU => ih p.parts[i] fv pv rv U (by have := count_mem (List.getElem_mem hi); have := count_parts p; omega) (ht.below hU (by have := hW.size; have := hV.size; omega)) (by have := hW.size; have := hV.size; have := hU.size; omega)
          (pow_below hp (hW.trans ((hV.mono hW.size).trans (hU.mono (by have := hW.size; have := hV.size; omega))))) (form_mem f5 _ (List.getElem_mem hi)) (fun q hq => hl q (by rw [nodes_parts]; exact List.mem_cons_of_mem _ (nodess_mem (List.getElem_mem hi) hq)))))
    obtain ⟨⟨a1, n1, c1, rfl⟩, ⟨a2, n2, c2, rfl⟩, ⟨a3, n3, c3, rfl⟩⟩ := h.slices
    unfold partV at hown ⊢
    obtain ⟨X, hX⟩ : ∃ X, textQ p.typ.1 = X := ⟨_, rfl⟩
    obtain ⟨Y, hY⟩ : ∃ X, textQ p.typ.2.1 = X := ⟨_, rfl⟩
    obtain ⟨D, hD⟩ : ∃ X, textQ p.body = X := ⟨_, rfl⟩
    rw [hX, hY, hD] at hown ⊢
    obtain ⟨w1, hw1⟩ : ∃ w1, w.alloc (.cells #[.slice a1 n1 c1, .string X, .string Y, .slice a2 n2 c2, .string D, .slice a3 n3 c3] 29) = w1 := ⟨_, rfl⟩
    have b1 : Below w.heap.size w w1 := by rw [← hw1]; exact (Below.refl _ _).alloc (Nat.le_refl _) _
    have p1 : PrtAt w1 w.heap.size (.slice a1 n1 c1) (.string X) (.string Y) (.slice a2 n2 c2) (.string D) (.slice a3 n3 c3) := by rw [← hw1]; exact prt_new w _ _ _ _ _ _
    have hcall := hown w1 b1
    obtain ⟨y0, y1, y2, y3, y4, y5, _⟩ := p1.cells
    have K1 := Lib.hid (And.intro b1 p1)
    have HK := Lib.hid hkids
    clear hown hkids hX hY hD b1 p1 ih f1 f2 f3 f4 f5 hf hl hp h hm
    go_enter Tryz.func18, Tryz.ntmps18
    go_wp2_with fail
    refine hcall.mono ?_
    rintro e w2 ⟨rfl, hb⟩
    have K2 := Lib.hid (And.intro (K1.out.1.trans (hb.mono K1.out.1.size)) (K1.out.2.below hb))
    clear hcall hb y0 y1 y2 y3 y4 y5
    have hk := HK.out w2 K2.out.1
    obtain ⟨y0, y1, y2, y3, y4, y5, _⟩ := K2.out.2.cells
    go_wp2_with fail
    refine hk.mono ?_
    rintro e w3 ⟨rfl, hb⟩
    have Fin := Lib.hid (K2.out.1.trans (hb.mono K2.out.1.size))
    clear hk hb y0 y1 y2 y3 y4 y5
    go_wp2
    go_ret
    exact ⟨rfl, Fin.out⟩

theorem ghown_bad (B : Nat) (p : TreeM) (fv pv rv : Value) (w : World) (h : TreeAt w B p fv pv rv) (hB : B ≤ w.heap.size) (hr : rightC p.typ = false) :
    Calls Tryz.prog 30 #[partV p fv pv rv] w fun e w' => e = .returned (.bool false) ∧ Below w.heap.size w w' := by
  have hcr := fun W (hW : Below w.heap.size w W) => cright_any B pv p.typ W (h.below hW hB).t (Nat.le_trans hB hW.size)
  rw [hr] at hcr
  unfold typeV at hcr
  obtain ⟨⟨a1, n1, c1, rfl⟩, ⟨a2, n2, c2, rfl⟩, _⟩ := h.slices
  obtain ⟨a3, c3, rfl, hc3, hm3⟩ := h.len
  unfold maxLen at hm3
  obtain ⟨n3, hn3⟩ : ∃ n3, p.parts.length = n3 := ⟨_, rfl⟩
  rw [hn3] at hc3 ⊢
  unfold partV
  obtain ⟨X, hX⟩ : ∃ X, textQ p.typ.1 = X := ⟨_, rfl⟩
  obtain ⟨Y, hY⟩ : ∃ X, textQ p.typ.2.1 = X := ⟨_, rfl⟩
  obtain ⟨D, hD⟩ : ∃ X, textQ p.body = X := ⟨_, rfl⟩
  rw [hX, hY, hD]
  simp only [hX, hY] at hcr
  obtain ⟨w1, hw1⟩ : ∃ w1, w.alloc (.cells #[.slice a1 n1 c1, .string X, .string Y, .slice a2 n2 c2, .string D, .slice a3 n3 c3] 29) = w1 := ⟨_, rfl⟩
  have b1 : Below w.heap.size w w1 := by rw [← hw1]; exact (Below.refl _ _).alloc (Nat.le_refl _) _
  have p1 : PrtAt w1 w.heap.size (.slice a1 n1 c1) (.string X) (.string Y) (.slice a2 n2 c2) (.string D) (.slice a3 n3 c3) := by rw [← hw1]; exact prt_new w _ _ _ _ _ _
  have hcall := hcr w1 b1
  obtain ⟨y0, y1, y2, y3, y4, y5, _⟩ := p1.cells
  have K1 := Lib.hid b1
  clear hcr hX hY hD b1 p1 hr h hn3
  go_enter Tryz.func30, Tryz.ntmps30
  go_wp2_with fail
  refine hcall.mono ?_
  rintro e w2 ⟨rfl, hb⟩
  have Fin := Lib.hid (K1.out.trans (hb.mono K1.out.size))
  clear hcall hb y0 y1 y2 y3 y4 y5
  go_wp2
  go_ret
  exact ⟨rfl, Fin.out⟩
theorem gform_bad (B : Nat) (p : TreeM) (fv pv rv : Value) (w : World) (h : TreeAt w B p fv pv rv) (hB : B ≤ w.heap.size) (hr : rightC p.typ = false) :
    Calls Tryz.prog 18 #[partV p fv pv rv] w fun e w' => e = .returned (.bool false) ∧ Below w.heap.size w w' := by
  have hown := fun W (hW : Below w.heap.size w W) => ghown_bad B p fv pv rv W (h.below hW hB) (Nat.le_trans hB hW.size) hr
  obtain ⟨⟨a1, n1, c1, rfl⟩, ⟨a2, n2, c2, rfl⟩, ⟨a3, n3, c3, rfl⟩⟩ := h.slices
  unfold partV at hown ⊢
  obtain ⟨X, hX⟩ : ∃ X, textQ p.typ.1 = X := ⟨_, rfl⟩
  obtain ⟨Y, hY⟩ : ∃ X, textQ p.typ.2.1 = X := ⟨_, rfl⟩
  obtain ⟨D, hD⟩ : ∃ X, textQ p.body = X := ⟨_, rfl⟩
  rw [hX, hY, hD] at hown ⊢
  obtain ⟨w1, hw1⟩ : ∃ w1, w.alloc (.cells #[.slice a1 n1 c1, .string X, .string Y, .slice a2 n2 c2, .string D, .slice a3 n3 c3] 29) = w1 := ⟨_, rfl⟩
  have b1 : Below w.heap.size w w1 := by rw [← hw1]; exact (Below.refl _ _).alloc (Nat.le_refl _) _
  have p1 : PrtAt w1 w.heap.size (.slice a1 n1 c1) (.string X) (.string Y) (.slice a2 n2 c2) (.string D) (.slice a3 n3 c3) := by rw [← hw1]; exact prt_new w _ _ _ _ _ _
  have hcall := hown w1 b1
  obtain ⟨y0, y1, y2, y3, y4, y5, _⟩ := p1.cells
  have K1 := Lib.hid b1
  clear hown hX hY hD b1 p1 hr h
  go_enter Tryz.func18, Tryz.ntmps18
  go_wp2_with fail
  refine hcall.mono ?_
  rintro e w2 ⟨rfl, hb⟩
  have Fin := Lib.hid (K1.out.trans (hb.mono K1.out.size))
  clear hcall hb y0 y1 y2 y3 y4 y5
  go_wp2
  go_ret
  exact ⟨rfl, Fin.out⟩
end Go.Proofs.YtjikghndoklajaaGreatDoor
