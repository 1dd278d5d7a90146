/-
  Texts of this proof, put together: MmJ.
-/
import Derived.Test.YtidlpdiephlkhaaGreatDoorT33
import Derived.Laws.StructEq
namespace Go.Proofs.YtidlpdiephlkhaaGreatDoor
open Go.RowKit

/-- Two fields' compare. -/
theorem run_fld_neq (X Y X2 Y2 : ByteArray) (w : World) : (binOp .neq 52 (.agg #[.string X, .string Y]) (.agg #[.string X2, .string Y2])).run Tryz.prog w = .ok (.bool (!((X.toList == X2.toList) && (Y.toList == Y2.toList)))) w := by
  have hS : Tryz.prog.underlying 52 = some (.struct (Tryz.prog.fieldsOf 52)) := by kernel_rfl
  have hp : Tryz.prog.stoodInHeld 52 = false := by kernel_rfl
  have u3 := Tryz.underlying9
  have a3 := Tryz.isAgg9
  have z3 := Tryz.sizeOf9
  rw [run_neq_struct, show (10000 : Nat) = 9999 + 1 from rfl, run_equalIn_agg w 9999 52 _ _ hS hp]
  simp only [Program.fieldsOf, Tryz.underlying52]
  go_simp
  by_cases h1 : X.toList = X2.toList <;> by_cases h2 : Y.toList = Y2.toList <;> simp [h1, h2]
theorem run_fld_guard (x y : Operand) (X Y X2 Y2 : ByteArray) (w : World) : (eqGuard .neq 52 x y (.agg #[.string X, .string Y]) (.agg #[.string X2, .string Y2])).run Tryz.prog w = .ok () w :=
  run_eqGuard_agg w .neq 52 x y _ _ (by kernel_rfl)

set_option maxRecDepth 100000 in
set_option maxHeartbeats 4000000 in
theorem hsleq_any (B : Nat) (v u : Value) (l m : List FieldH) (w : World) (h : FieldsAt w B v l) (h2 : FieldsAt w B u m) (hB : B ≤ w.heap.size) :
    Calls Tryz.prog 39 #[v, u] w fun e w' => e = .returned (.bool (decide (l = m))) ∧ Below w.heap.size w w' := by
  obtain ⟨ao, cap, rfl, hc1, hc2, hat⟩ := h
  obtain ⟨bo, cap2, rfl, hd1, hd2, hat2⟩ := h2
  have Hat := Lib.hid hat
  have Hat2 := Lib.hid hat2
  unfold maxLen at hc2 hd2
  obtain ⟨R, hR⟩ : ∃ R, decide (l = m) = R := ⟨_, rfl⟩
  rw [hR]
  have HR := Lib.hid hR
  obtain ⟨n, hn⟩ : ∃ n, l.length = n := ⟨_, rfl⟩
  obtain ⟨k, hk⟩ : ∃ k, m.length = k := ⟨_, rfl⟩
  rw [hn] at hc1 ⊢
  rw [hk] at hd1 ⊢
  have Hn := Lib.hid (And.intro hn hk)
  clear hat hat2 hR hn hk
  by_cases hnk : n = k
  · subst hnk
    go_enter Tryz.func39, Tryz.ntmps39
    go_wp2
    go_loopw [13] (fun iv wr => ∃ i : Nat, i ≤ n ∧ iv = .int .i64 i ∧ Hid (∀ j (hj : j < l.length) (hj2 : j < m.length), j < i → l[j] = m[j]) ∧ Below w.heap.size w wr) (fun iv _ => n - (intOf iv).toNat)
    case atStart => exact ⟨0, by omega, rfl, Lib.hid (fun j _ _ h => by omega), Below.refl _ _⟩
    case round =>
      obtain ⟨i, hi, rfl, hg, hbr⟩ := hrel
      by_cases hlt : i < n
      · have hil : i < l.length := by rw [Hn.out.1]; exact hlt
        have him : i < m.length := by rw [Hn.out.2]; exact hlt
        obtain ⟨g, off, rfl, hgB, z0, z1⟩ := Hat.out i hil
        obtain ⟨g2, off2, rfl, hgB2, x0, x1⟩ := Hat2.out i him
        have hyes : Hid (l[i] = m[i] → ∀ j (hj : j < l.length) (hj2 : j < m.length), j < i + 1 → l[j] = m[j]) := Lib.hid fun h j hj hj2 h3 => by
          rcases Nat.lt_or_ge j i with h4 | h4
          · exact hg.out j hj hj2 h4
          · obtain rfl : j = i := by omega
            exact h
        have hno : Hid (l[i] ≠ m[i] → false = R) := Lib.hid fun h => by
          rw [← HR.out]
          exact (decide_eq_false (fun e => h (by subst e; rfl))).symm
        obtain ⟨f, hf⟩ : ∃ f, l[i] = f := ⟨_, rfl⟩
        obtain ⟨f2, hf2⟩ : ∃ f, m[i] = f := ⟨_, rfl⟩
        rw [hf] at z0 z1 hyes hno
        rw [hf2] at x0 x1 hyes hno
        obtain ⟨X, hX⟩ : ∃ X, textQ f.1 = X := ⟨_, rfl⟩
        obtain ⟨Y, hY⟩ : ∃ Y, textQ f.2 = Y := ⟨_, rfl⟩
        obtain ⟨X2, hX2⟩ : ∃ X, textQ f2.1 = X := ⟨_, rfl⟩
        obtain ⟨Y2, hY2⟩ : ∃ Y, textQ f2.2 = Y := ⟨_, rfl⟩
        have e1 : (X.toList == X2.toList) = (f.1 == f2.1) := by rw [← hX, ← hX2, str_eqC]
        have e2 : (Y.toList == Y2.toList) = (f.2 == f2.2) := by rw [← hY, ← hY2, str_eqC]
        rw [hX] at z0
        rw [hY] at z1
        rw [hX2] at x0
        rw [hY2] at x1
        have y0 := (hbr.cell (p := ⟨g, off + i * 2, none⟩) (by show g < w.heap.size; omega)).trans z0
        have y1 := (hbr.cell (p := ⟨g, off + i * 2 + 1, none⟩) (by show g < w.heap.size; omega)).trans z1
        have v0 := (hbr.cell (p := ⟨g2, off2 + i * 2, none⟩) (by show g2 < w.heap.size; omega)).trans x0
        have v1 := (hbr.cell (p := ⟨g2, off2 + i * 2 + 1, none⟩) (by show g2 < w.heap.size; omega)).trans x1
        have hcm := fun W => run_fld_neq X Y X2 Y2 W
        have hgd := fun x y W => run_fld_guard x y X Y X2 Y2 W
        rw [e1, e2] at hcm
        obtain ⟨b, hb⟩ : ∃ b, (!((f.1 == f2.1) && (f.2 == f2.2))) = b := ⟨_, rfl⟩
        simp only [hb] at hcm
        clear z0 z1 x0 x1 hil him hf hf2 hX hY hX2 hY2 hg e1 e2
        cases b with
        | true =>
          have Hn := Lib.hid (hno.out (by rintro rfl; simp at hb))
          clear hyes hno hb
          go_wp2_with fail
          go_quiet (fail)
          have hb2 := below_drewN hbr nq
          clear hbr y0 y1 v0 v1
          go_wp2
          go_ret
          exact ⟨by rw [← Hn.out]; rfl, hb2⟩
        | false =>
          have Hn := Lib.hid (hyes.out (by
            simp only [Bool.not_eq_false', Bool.and_eq_true, beq_iff_eq] at hb
            exact Prod.ext hb.1 hb.2))
          clear hyes hno hb
          go_wp2_with fail
          go_quiet (fail)
          have hb2 := below_drewN hbr nq
          clear hbr y0 y1 v0 v1
          go_wp2
          go_roundw
          case rel => exact ⟨i + 1, by omega, by go_num, Hn, hb2⟩
          case measure => simp [intOf]; omega
      · obtain rfl : i = n := by omega
        have hall : true = R := by
          rw [← HR.out]
          exact (decide_eq_true (List.ext_getElem (by rw [Hn.out.1, Hn.out.2]) fun j h1 h2 => hg.out j h1 h2 (by rw [← Hn.out.1]; exact h1))).symm
        subst hall
        clear hg
        go_wp2
        go_ret
        exact ⟨rfl, hbr⟩
  · have hR2 : false = R := by
      rw [← HR.out]
      exact (decide_eq_false (fun e => hnk (by rw [← Hn.out.1, ← Hn.out.2, e]))).symm
    subst hR2
    have hnk2 : ((n : Int) == (k : Int)) = false := by rw [beq_eq_false_iff_ne]; omega
    go_enter Tryz.func39, Tryz.ntmps39
    go_wp2
    go_ret
    exact ⟨rfl, Below.refl _ _⟩

theorem enter_same : ∀ args w, (callFunc 19 args).run Tryz.prog w = .ok (.enter 19 args) w := enters_of Tryz.func19 (by kernel_rfl) rfl
/-- What asking whether two trees are the same comes to. -/
def SameFn (B : Nat) (p : TreeM) : Prop := ∀ (q : TreeM) (fv pv rv fu pu ru : Value) (W : World), TreeAt W B p fv pv rv → TreeAt W B q fu pu ru → B ≤ W.heap.size →
    Calls Tryz.prog 19 #[partV p fv pv rv, partV q fu pu ru] W fun e w' => e = .returned (.bool (decide (p = q))) ∧ Below W.heap.size W w'

set_option maxRecDepth 100000 in
set_option maxHeartbeats 4000000 in
theorem msleqfn_any (B : Nat) (v u : Value) (l m : List TreeM) (w : World) (h : PartsAt w B v l) (h2 : PartsAt w B u m) (hB : B ≤ w.heap.size) (rec : ∀ p ∈ l, SameFn B p) :
    Calls Tryz.prog 41 #[v, u, .func (.func 19) #[] #[]] w fun e w' => e = .returned (.bool (decide (l = m))) ∧ Below w.heap.size w w' := by
  obtain ⟨ao, cap, rfl, hc1, hc2⟩ := h.slice
  obtain ⟨bo, cap2, rfl, hd1, hd2⟩ := h2.slice
  have H := Lib.hid h
  have H2 := Lib.hid h2
  have REC := Lib.hid rec
  unfold maxLen at hc2 hd2
  obtain ⟨R, hR⟩ : ∃ R, decide (l = m) = R := ⟨_, rfl⟩
  rw [hR]
  have HR := Lib.hid hR
  obtain ⟨n, hn⟩ : ∃ n, l.length = n := ⟨_, rfl⟩
  obtain ⟨k, hk⟩ : ∃ k, m.length = k := ⟨_, rfl⟩
  rw [hn] at hc1 ⊢ H
  rw [hk] at hd1 ⊢ H2
  have Hn := Lib.hid (And.intro hn hk)
  have es := enter_same
  clear h h2 hR hn hk rec
  by_cases hnk : n = k
  · subst hnk
    go_enter Tryz.func41, Tryz.ntmps41
    go_wp2
    go_loopw [17] (fun iv wr => ∃ i : Nat, i ≤ n ∧ iv = .int .i64 i ∧ Hid (∀ j (hj : j < l.length) (hj2 : j < m.length), j < i → l[j] = m[j]) ∧ Below w.heap.size w wr) (fun iv _ => n - (intOf iv).toNat)
    case atStart => exact ⟨0, by omega, rfl, Lib.hid (fun j _ _ h => by omega), Below.refl _ _⟩
    case round =>
      obtain ⟨i, hi, rfl, hg, hbr⟩ := hrel
      by_cases hlt : i < n
      · have hil : i < l.length := by rw [Hn.out.1]; exact hlt
        have him : i < m.length := by rw [Hn.out.2]; exact hlt
        have hbz := hbr.size
        have Ha : PartsP wr (· < B) (.slice ao n cap) l := H.out.to (stay_below hbr hB)
        have Hb : PartsP wr (· < B) (.slice bo n cap2) m := H2.out.to (stay_below hbr hB)
        obtain ⟨g, off, fv, pv, rv, rfl, hgB, z0, z1, z2, z3, z4, z5, ht⟩ := Ha.cells i hil
        obtain ⟨g2, off2, fu, pu, ru, rfl, hgB2, x0, x1, x2, x3, x4, x5, ht2⟩ := Hb.cells i him
        obtain ⟨⟨a1, n1, q1, rfl⟩, ⟨a2, n2, q2, rfl⟩, ⟨a3, n3, q3, rfl⟩⟩ := ht.slices
        obtain ⟨⟨a4, n4, q4, rfl⟩, ⟨a5, n5, q5, rfl⟩, ⟨a6, n6, q6, rfl⟩⟩ := ht2.slices
        obtain ⟨X, hX⟩ : ∃ X, textQ l[i].typ.1 = X := ⟨_, rfl⟩
        obtain ⟨Y, hY⟩ : ∃ X, textQ l[i].typ.2.1 = X := ⟨_, rfl⟩
        obtain ⟨D, hD⟩ : ∃ X, textQ l[i].body = X := ⟨_, rfl⟩
        obtain ⟨X2, hX2⟩ : ∃ X, textQ m[i].typ.1 = X := ⟨_, rfl⟩
        obtain ⟨Y2, hY2⟩ : ∃ X, textQ m[i].typ.2.1 = X := ⟨_, rfl⟩
        obtain ⟨D2, hD2⟩ : ∃ X, textQ m[i].body = X := ⟨_, rfl⟩
        rw [hX] at z1
        rw [hY] at z2
        rw [hD] at z4
        rw [hX2] at x1
        rw [hY2] at x2
        rw [hD2] at x4
        obtain ⟨w5, hw5⟩ : ∃ w5, wr.alloc (.cells #[.slice a1 n1 q1, .string X, .string Y, .slice a2 n2 q2, .string D, .slice a3 n3 q3] 29) = w5 := ⟨_, rfl⟩
        have b5 : Below wr.heap.size wr w5 := by rw [← hw5]; exact (Below.refl _ _).alloc (Nat.le_refl _) _
        have p5 : PrtAt w5 wr.heap.size (.slice a1 n1 q1) (.string X) (.string Y) (.slice a2 n2 q2) (.string D) (.slice a3 n3 q3) := by rw [← hw5]; exact prt_new wr _ _ _ _ _ _
        obtain ⟨w6, hw6⟩ : ∃ w6, w5.alloc (.cells #[.slice a4 n4 q4, .string X2, .string Y2, .slice a5 n5 q5, .string D2, .slice a6 n6 q6] 29) = w6 := ⟨_, rfl⟩
        have b6 : Below w5.heap.size w5 w6 := by rw [← hw6]; exact (Below.refl _ _).alloc (Nat.le_refl _) _
        have p6 : PrtAt w6 w5.heap.size (.slice a4 n4 q4) (.string X2) (.string Y2) (.slice a5 n5 q5) (.string D2) (.slice a6 n6 q6) := by rw [← hw6]; exact prt_new w5 _ _ _ _ _ _
        have hc5 : ∀ j, w5.cell? ⟨g2, j, none⟩ = wr.cell? ⟨g2, j, none⟩ := fun j => b5.cell (p := ⟨g2, j, none⟩) (by show g2 < _; have hgB2 : g2 < B := hgB2; omega)
        have e0 := (hc5 _).trans x0
        have e1 := (hc5 _).trans x1
        have e2 := (hc5 _).trans x2
        have e3 := (hc5 _).trans x3
        have e4 := (hc5 _).trans x4
        have e5 := (hc5 _).trans x5
        obtain ⟨y0, y1, y2, y3, y4, y5, _⟩ := (p5.below b6).cells
        obtain ⟨u0, u1, u2, u3, u4, u5, _⟩ := p6.cells
        have b56 := b5.trans (b6.mono b5.size)
        have hcall := REC.out l[i] (List.getElem_mem hil) m[i] _ _ _ _ _ _ w6 (ht.below b56 (by omega)) (ht2.below b56 (by omega)) (by have := b56.size; omega)
        unfold partV at hcall
        rw [hX, hY, hD, hX2, hY2, hD2] at hcall
        have hyes : Hid (l[i] = m[i] → ∀ j (hj : j < l.length) (hj2 : j < m.length), j < i + 1 → l[j] = m[j]) := Lib.hid fun h j hj hj2 h3 => by
          rcases Nat.lt_or_ge j i with h4 | h4
          · exact hg.out j hj hj2 h4
          · obtain rfl : j = i := by omega
            exact h
        have hno : Hid (l[i] ≠ m[i] → R = false) := Lib.hid fun h => by
          rw [← HR.out]
          exact decide_eq_false (fun e => h (by subst e; rfl))
        obtain ⟨P, hP⟩ : ∃ P, l[i] = P := ⟨_, rfl⟩
        obtain ⟨Q, hQ⟩ : ∃ Q, m[i] = Q := ⟨_, rfl⟩
        rw [hP, hQ] at hcall hyes hno
        have hb6 := Lib.hid (And.intro (hbr.trans (b56.mono hbz)) (Nat.le_trans hbz b56.size))
        clear Ha Hb ht ht2 hX hY hD hX2 hY2 hD2 b5 p5 b6 p6 hc5 b56 hP hQ x0 x1 x2 x3 x4 x5 hgB hgB2 hil him hg
        by_cases he : P = Q
        · rw [decide_eq_true he] at hcall
          have Hy := Lib.hid (hyes.out he)
          clear hyes hno he
          go_wp2_with (go_at_fn 19; refine hcall.mono ?_; rintro e w7 ⟨rfl, hw7⟩)
          have hb7 := hb6.out.1.trans (hw7.mono hb6.out.2)
          go_roundw
          case rel => exact ⟨i + 1, by omega, by go_num, Hy, hb7⟩
          case measure => simp [intOf]; omega
        · rw [decide_eq_false he] at hcall
          have Hf := Lib.hid (hno.out he)
          clear hyes hno he
          go_wp2_with (go_at_fn 19; refine hcall.mono ?_; rintro e w7 ⟨rfl, hw7⟩)
          have hb7 := hb6.out.1.trans (hw7.mono hb6.out.2)
          go_ret
          exact ⟨by rw [Hf.out]; rfl, hb7⟩
      · obtain rfl : i = n := by omega
        have hall : R = true := by
          rw [← HR.out]
          exact decide_eq_true (List.ext_getElem (by rw [Hn.out.1, Hn.out.2]) (fun j hj hj2 => hg.out j hj hj2 (by rw [← Hn.out.1]; exact hj)))
        have Hall := Lib.hid hall
        clear hall hg
        go_wp2
        go_ret
        exact ⟨by rw [Hall.out]; rfl, hbr⟩
  · have hf : R = false := by
      rw [← HR.out]
      exact decide_eq_false (fun e => hnk (by rw [← Hn.out.1, ← Hn.out.2, e]))
    have Hf := Lib.hid hf
    have hne : ((n : Int) != (k : Int)) = true := by simpa using (fun e : (n : Int) = k => hnk (by omega))
    clear hf hnk
    go_enter Tryz.func41, Tryz.ntmps41
    go_wp2
    go_ret
    exact ⟨by rw [Hf.out]; rfl, Below.refl _ _⟩

theorem tree_eq4 (p q : TreeM) : decide (p = q) = (decide (p.fields = q.fields) && (decide (p.typ = q.typ) && (decide (p.body = q.body) && decide (p.parts = q.parts)))) := by
  obtain ⟨a, b, c, d⟩ := p
  obtain ⟨a2, b2, c2, d2⟩ := q
  rw [Bool.eq_iff_iff]
  simp only [decide_eq_true_eq, Bool.and_eq_true, TreeM.mk.injEq]
  exact Iff.rfl
set_option maxRecDepth 100000 in
set_option maxHeartbeats 8000000 in
theorem msame_any (B : Nat) : ∀ (k : Nat) (p : TreeM), countM p ≤ k → SameFn B p
  | 0, p, hk => by
    have := count_pos p
    omega
  | k + 1, p, hk => by
    intro q fv pv rv fu pu ru w h h2 hB
    obtain ⟨⟨a1, n1, q1, rfl⟩, ⟨a2, n2, q2, rfl⟩, ⟨a3, n3, q3, rfl⟩⟩ := h.slices
    obtain ⟨⟨a4, n4, q4, rfl⟩, ⟨a5, n5, q5, rfl⟩, ⟨a6, n6, q6, rfl⟩⟩ := h2.slices
    have hrec : ∀ x ∈ p.parts, SameFn B x := fun x hx => msame_any B k x (by have := count_parts p; have := count_mem hx; omega)
    have he1 : Hid (∀ W, Below w.heap.size w W → Calls Tryz.prog 39 #[.slice a1 n1 q1, .slice a4 n4 q4] W fun e w' => e = .returned (.bool (decide (p.fields = q.fields))) ∧ Below W.heap.size W w') := Lib.hid fun W hW => hsleq_any B _ _ _ _ W ((h.below hW hB).f) ((h2.below hW hB).f) (Nat.le_trans hB hW.size)
    have he2 : Hid (∀ W, Below w.heap.size w W → Calls Tryz.prog 40 #[typeV p.typ (.slice a2 n2 q2), typeV q.typ (.slice a5 n5 q5)] W fun e w' => e = .returned (.bool (decide (p.typ = q.typ))) ∧ Below W.heap.size W w') := Lib.hid fun W hW => csame_any B _ _ _ _ W ((h.below hW hB).t) ((h2.below hW hB).t) (Nat.le_trans hB hW.size)
    have he4 : Hid (∀ W, Below w.heap.size w W → Calls Tryz.prog 41 #[.slice a3 n3 q3, .slice a6 n6 q6, .func (.func 19) #[] #[]] W fun e w' => e = .returned (.bool (decide (p.parts = q.parts))) ∧ Below W.heap.size W w') := Lib.hid fun W hW => msleqfn_any B _ _ _ _ W ((h.below hW hB).r) ((h2.below hW hB).r) (Nat.le_trans hB hW.size) hrec
    rw [tree_eq4]
    have hbb : ((textQ p.body).toList == (textQ q.body).toList) = decide (p.body = q.body) := by
      rw [Lib.toList_data, Lib.toList_data]
      show (p.body == q.body) = _
      rw [Bool.eq_iff_iff, beq_iff_eq, decide_eq_true_eq]
    unfold typeV at he2
    unfold partV
    obtain ⟨X, hX⟩ : ∃ X, textQ p.typ.1 = X := ⟨_, rfl⟩
    obtain ⟨Y, hY⟩ : ∃ X, textQ p.typ.2.1 = X := ⟨_, rfl⟩
    obtain ⟨D, hD⟩ : ∃ X, textQ p.body = X := ⟨_, rfl⟩
    obtain ⟨X2, hX2⟩ : ∃ X, textQ q.typ.1 = X := ⟨_, rfl⟩
    obtain ⟨Y2, hY2⟩ : ∃ X, textQ q.typ.2.1 = X := ⟨_, rfl⟩
    obtain ⟨D2, hD2⟩ : ∃ X, textQ q.body = X := ⟨_, rfl⟩
    rw [hX, hY, hX2, hY2] at he2
    rw [hD, hD2] at hbb
    rw [hX, hY, hD, hX2, hY2, hD2]
    obtain ⟨b1, hb1⟩ : ∃ b1, decide (p.fields = q.fields) = b1 := ⟨_, rfl⟩
    obtain ⟨b2, hb2⟩ : ∃ b2, decide (p.typ = q.typ) = b2 := ⟨_, rfl⟩
    obtain ⟨b3, hb3⟩ : ∃ b3, decide (p.body = q.body) = b3 := ⟨_, rfl⟩
    obtain ⟨b4, hb4⟩ : ∃ b4, decide (p.parts = q.parts) = b4 := ⟨_, rfl⟩
    rw [hb1] at he1 ⊢
    rw [hb2] at he2 ⊢
    rw [hb3] at hbb ⊢
    rw [hb4] at he4 ⊢
    obtain ⟨w1, hw1⟩ : ∃ w1, w.alloc (.cells #[.slice a1 n1 q1, .string X, .string Y, .slice a2 n2 q2, .string D, .slice a3 n3 q3] 29) = w1 := ⟨_, rfl⟩
    have c1 : Below w.heap.size w w1 := by rw [← hw1]; exact (Below.refl _ _).alloc (Nat.le_refl _) _
    have p1 : PrtAt w1 w.heap.size (.slice a1 n1 q1) (.string X) (.string Y) (.slice a2 n2 q2) (.string D) (.slice a3 n3 q3) := by rw [← hw1]; exact prt_new w _ _ _ _ _ _
    obtain ⟨w2, hw2⟩ : ∃ w2, w1.alloc (.cells #[.slice a4 n4 q4, .string X2, .string Y2, .slice a5 n5 q5, .string D2, .slice a6 n6 q6] 29) = w2 := ⟨_, rfl⟩
    have c2 : Below w1.heap.size w1 w2 := by rw [← hw2]; exact (Below.refl _ _).alloc (Nat.le_refl _) _
    have p2 : PrtAt w2 w1.heap.size (.slice a4 n4 q4) (.string X2) (.string Y2) (.slice a5 n5 q5) (.string D2) (.slice a6 n6 q6) := by rw [← hw2]; exact prt_new w1 _ _ _ _ _ _
    have c12 : Below w.heap.size w w2 := c1.trans (c2.mono c1.size)
    have K2 : Hid (∀ W, Below w2.heap.size w2 W → PrtAt W w.heap.size (.slice a1 n1 q1) (.string X) (.string Y) (.slice a2 n2 q2) (.string D) (.slice a3 n3 q3) ∧ PrtAt W w1.heap.size (.slice a4 n4 q4) (.string X2) (.string Y2) (.slice a5 n5 q5) (.string D2) (.slice a6 n6 q6) ∧ Below w.heap.size w W) := Lib.hid fun W hW => ⟨(p1.below c2).below hW, p2.below hW, c12.trans (hW.mono c12.size)⟩
    obtain ⟨y0, y1, y2, y3, y4, y5, _⟩ := (p1.below c2).cells
    obtain ⟨u0, u1, u2, u3, u4, u5, _⟩ := p2.cells
    have h1 := he1.out w2 c12
    have C12 := Lib.hid c12
    clear h h2 hrec hX hY hD hX2 hY2 hD2 hb1 hb2 hb3 hb4 c1 p1 c2 p2 c12 he1
    cases b1 with
    | false =>
      go_enter Tryz.func19, Tryz.ntmps19
      go_wp2_with (go_at_call 39; refine h1.mono ?_; rintro e w3 ⟨rfl, hb⟩; have B3 := Lib.hid (C12.out.trans (hb.mono C12.out.size)); clear hb)
      go_ret
      exact ⟨rfl, B3.out⟩
    | true =>
      go_enter Tryz.func19, Tryz.ntmps19
      go_wp2_with (go_at_call 39
                   refine h1.mono ?_
                   rintro e w3 ⟨rfl, hb⟩
                   have K3 := Lib.hid (And.intro hb (K2.out w3 hb))
                   obtain ⟨g0, g1, g2, g3, g4, g5, _⟩ := K3.out.2.1.cells
                   obtain ⟨i0, i1, i2, i3, i4, i5, _⟩ := K3.out.2.2.1.cells
                   have h3 := he2.out w3 K3.out.2.2.2
                   clear hb h1
                   refine HeldW.of ?_)
      unfold HeldW
      clear y0 y1 y2 y3 y4 y5 u0 u1 u2 u3 u4 u5
      cases b2 with
      | false =>
        go_wp2_with (go_at_call 40; refine h3.mono ?_; rintro e w4 ⟨rfl, hb⟩; have B4 := Lib.hid (K3.out.2.2.2.trans (hb.mono K3.out.2.2.2.size)); clear hb)
        go_ret
        exact ⟨rfl, B4.out⟩
      | true =>
        go_wp2_with (go_at_call 40
                     refine h3.mono ?_
                     rintro e w4 ⟨rfl, hb⟩
                     have K4 := Lib.hid (K2.out w4 (K3.out.1.trans (hb.mono K3.out.1.size)))
                     obtain ⟨y0, y1, y2, y3, y4, y5, _⟩ := K4.out.1.cells
                     obtain ⟨u0, u1, u2, u3, u4, u5, _⟩ := K4.out.2.1.cells
                     have h4 := he4.out w4 K4.out.2.2
                     clear hb h3
                     refine HeldW.of ?_)
        unfold HeldW
        clear g0 g1 g2 g3 g4 g5 i0 i1 i2 i3 i4 i5
        cases b3 with
        | false =>
          go_wp2
          go_ret
          exact ⟨rfl, K4.out.2.2⟩
        | true =>
          go_wp2_with (go_at_call 41; refine h4.mono ?_; rintro e w5 ⟨rfl, hb⟩; have B5 := Lib.hid (K4.out.2.2.trans (hb.mono K4.out.2.2.size)); clear hb)
          go_ret
          exact ⟨rfl, B5.out⟩
end Go.Proofs.YtidlpdiephlkhaaGreatDoor
