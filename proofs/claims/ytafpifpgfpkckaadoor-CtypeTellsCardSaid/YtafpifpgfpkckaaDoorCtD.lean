/-
  Right, Same and Param; a type that lies in a block.
-/
import Derived.Test.YtafpifpgfpkckaaDoorCtC
import Derived.Laws.StructEq
namespace Go.Proofs.YtafpifpgfpkckaaDoor
open Go.RowKit

/-- A type that lies in a block of its own; a type as a value. -/
def TypAt (w : World) (B : Nat) (X Y : ByteArray) (ao : Option Addr) (n cap : Nat) : Prop := w.heap[B]? = some (.cells #[.string X, .string Y, .slice ao n cap] 24 (0, 0))
section
variable {w w' : World} {B : Nat} {X Y : ByteArray} {ao : Option Addr} {n cap : Nat}
theorem TypAt.lt (h : TypAt w B X Y ao n cap) : B < w.heap.size := heap_lt h
theorem TypAt.cells (h : TypAt w B X Y ao n cap) : w.cell? ⟨B, 0, none⟩ = some (.string X) ∧ w.cell? ⟨B, 1, none⟩ = some (.string Y) ∧ w.cell? ⟨B, 2, none⟩ = some (.slice ao n cap) ∧ w.frozen? ⟨B, 0, none⟩ = false ∧ w.frozen? ⟨B, 1, none⟩ = false ∧ w.frozen? ⟨B, 2, none⟩ = false :=
  ⟨Lib.cell_of_heap h 0, Lib.cell_of_heap h 1, Lib.cell_of_heap h 2, Lib.frozen_of_heap h 0, Lib.frozen_of_heap h 1, Lib.frozen_of_heap h 2⟩
theorem TypAt.below (h : TypAt w B X Y ao n cap) (hb : Below w.heap.size w w') : TypAt w' B X Y ao n cap := (hb.block _ h.lt).trans h
theorem typ_new (w : World) (X Y : ByteArray) (ao : Option Addr) (n cap : Nat) : TypAt (w.alloc (.cells #[.string X, .string Y, .slice ao n cap] 24)) w.heap.size X Y ao n cap := heap_alloc_new w _
theorem TypAt.put (h : TypAt w B X Y ao n cap) (X' Y' : ByteArray) (ao' : Option Addr) (n' cap' : Nat) : TypAt (((w.setCell ⟨B, 0, none⟩ (.string X')).setCell ⟨B, 1, none⟩ (.string Y')).setCell ⟨B, 2, none⟩ (.slice ao' n' cap')) B X' Y' ao' n' cap' := by
  unfold TypAt at h ⊢
  have h1 := heap_setCell_same w B 0 _ _ (.string X') h
  have h2 := heap_setCell_same _ B 1 _ _ (.string Y') h1
  have h3 := heap_setCell_same _ B 2 _ _ (.slice ao' n' cap') h2
  rw [h3]
  rfl
theorem TypAt.main (h : TypAt w B X Y ao n cap) (X' : ByteArray) : TypAt (w.setCell ⟨B, 0, none⟩ (.string X')) B X' Y ao n cap := by
  unfold TypAt at h ⊢
  rw [heap_setCell_same w B 0 _ _ (.string X') h]
  rfl
theorem TypAt.sub (h : TypAt w B X Y ao n cap) (Y' : ByteArray) : TypAt (w.setCell ⟨B, 1, none⟩ (.string Y')) B X Y' ao n cap := by
  unfold TypAt at h ⊢
  rw [heap_setCell_same w B 1 _ _ (.string Y') h]
  rfl
theorem TypAt.pars (h : TypAt w B X Y ao n cap) (ao' : Option Addr) (n' cap' : Nat) : TypAt (w.setCell ⟨B, 2, none⟩ (.slice ao' n' cap')) B X Y ao' n' cap' := by
  unfold TypAt at h ⊢
  rw [heap_setCell_same w B 2 _ _ (.slice ao' n' cap') h]
  rfl
theorem below_putT {M : Nat} {v : World} (h : Below M v w) (hB : M ≤ B) (a b c : Value) : Below M v (((w.setCell ⟨B, 0, none⟩ a).setCell ⟨B, 1, none⟩ b).setCell ⟨B, 2, none⟩ c) :=
  ((h.setCell (p := ⟨B, 0, none⟩) hB _).setCell (p := ⟨B, 1, none⟩) hB _).setCell (p := ⟨B, 2, none⟩) hB _
end
def typeV (t : TypeC) (v : Value) : Value := .agg #[.string (textQ t.1), .string (textQ t.2.1), v]
theorem ParsAt.slice {w : World} {B : Nat} {v : Value} {l : List ParC} (h : ParsAt w B v l) : ∃ ao cap, v = .slice ao l.length cap ∧ l.length ≤ cap ∧ cap ≤ maxLen := by
  obtain ⟨ao, cap, h1, h2, h3, _⟩ := h
  exact ⟨ao, cap, h1, h2, h3⟩

set_option maxRecDepth 100000 in
set_option maxHeartbeats 4000000 in
theorem cright_any (B : Nat) (v : Value) (t : TypeC) (w : World) (h : ParsAt w B v t.2.2) (hB : B ≤ w.heap.size) :
    Calls Tryd.prog 17 #[typeV t v] w fun e w' => e = .returned (.bool (rightC t)) ∧ Below w.heap.size w w' := by
  obtain ⟨ao, cap, rfl, hc1, hc2⟩ := h.slice
  have h1 := fun W => cistok_any (textQ t.1) W
  have h2 := fun W => cistok_any (textQ t.2.1) W
  simp only [show (textQ t.1).data.toList = t.1 from rfl, show (textQ t.2.1).data.toList = t.2.1 from rfl] at h1 h2
  have hp : Hid (∀ W, Below w.heap.size w W → Calls Tryd.prog 34 #[.slice ao t.2.2.length cap] W fun e w' => e = .returned (.bool (decide (t.2.2.length ≤ 8) && parsC t.2.2)) ∧ Below W.heap.size W w') := Lib.hid fun W hW => crightp_any B _ t.2.2 W (h.below hW hB) (Nat.le_trans hB hW.size)
  unfold rightC typeV
  obtain ⟨X, hX⟩ : ∃ X, textQ t.1 = X := ⟨_, rfl⟩
  obtain ⟨Y, hY⟩ : ∃ Y, textQ t.2.1 = Y := ⟨_, rfl⟩
  obtain ⟨n, hn⟩ : ∃ n, t.2.2.length = n := ⟨_, rfl⟩
  obtain ⟨b1, hb1⟩ : ∃ b, tokT t.1 = b := ⟨_, rfl⟩
  obtain ⟨b2, hb2⟩ : ∃ b, tokT t.2.1 = b := ⟨_, rfl⟩
  obtain ⟨b3, hb3⟩ : ∃ b, (decide (n ≤ 8) && parsC t.2.2) = b := ⟨_, rfl⟩
  simp only [hX, hb1] at h1
  simp only [hY, hb2] at h2
  rw [hn] at hp hc1
  rw [hb3] at hp
  rw [hX, hY, hb1, hb2, hn, hb3]
  obtain ⟨w0, hw0⟩ : ∃ w0, w.alloc (.cells #[.string X, .string Y, .slice ao n cap] 24) = w0 := ⟨_, rfl⟩
  have b0 : Below w.heap.size w w0 := by rw [← hw0]; exact (Below.refl _ _).alloc (Nat.le_refl _) _
  have t0 : TypAt w0 w.heap.size X Y ao n cap := by rw [← hw0]; exact typ_new w _ _ _ _ _
  obtain ⟨c0, c1, c2, _⟩ := t0.cells
  have hp0 := hp.out w0 b0
  clear h hX hY hn hb1 hb2 hb3 t0 hp
  cases b1 with
  | false =>
    go_enter Tryd.func17, Tryd.ntmps17
    go_wp2_with (go_at_call 33; refine (h1 _).mono ?_; rintro e w1 ⟨rfl, h9⟩; obtain rfl := h9.symm)
    go_ret
    exact ⟨rfl, b0⟩
  | true =>
    cases b2 with
    | false =>
      go_enter Tryd.func17, Tryd.ntmps17
      go_wp2_with (first | (go_at_call 33; (with_reducible refine (h1 _).mono ?_); rintro e w1 ⟨rfl, h9⟩; obtain rfl := h9.symm) | (go_at_call 33; (with_reducible refine (h2 _).mono ?_); rintro e w1 ⟨rfl, h9⟩; obtain rfl := h9.symm))
      go_ret
      exact ⟨rfl, b0⟩
    | true =>
      go_enter Tryd.func17, Tryd.ntmps17
      go_wp2_with (first | (go_at_call 33; (with_reducible refine (h1 _).mono ?_); rintro e w1 ⟨rfl, h9⟩; obtain rfl := h9.symm) | (go_at_call 33; (with_reducible refine (h2 _).mono ?_); rintro e w1 ⟨rfl, h9⟩; obtain rfl := h9.symm) | (go_at_call 34; refine hp0.mono ?_; rintro e w1 ⟨rfl, hw1⟩))
      go_ret
      exact ⟨rfl, b0.trans (hw1.mono b0.size)⟩

/-- Two parameters' compare. -/
theorem run_par_neq (X Y X2 Y2 : ByteArray) (w : World) : (binOp .neq 42 (.agg #[.string X, .string Y]) (.agg #[.string X2, .string Y2])).run Tryd.prog w = .ok (.bool (!((X.toList == X2.toList) && (Y.toList == Y2.toList)))) w := by
  have hS : Tryd.prog.underlying 42 = some (.struct (Tryd.prog.fieldsOf 42)) := by kernel_rfl
  have hp : Tryd.prog.stoodInHeld 42 = false := by kernel_rfl
  have u3 := Tryd.underlying9
  have a3 := Tryd.isAgg9
  have z3 := Tryd.sizeOf9
  rw [run_neq_struct, show (10000 : Nat) = 9999 + 1 from rfl, run_equalIn_agg w 9999 42 _ _ hS hp]
  simp only [Program.fieldsOf, Tryd.underlying42]
  go_simp
  by_cases h1 : X.toList = X2.toList <;> by_cases h2 : Y.toList = Y2.toList <;> simp [h1, h2]
theorem run_par_guard (x y : Operand) (X Y X2 Y2 : ByteArray) (w : World) : (eqGuard .neq 42 x y (.agg #[.string X, .string Y]) (.agg #[.string X2, .string Y2])).run Tryd.prog w = .ok () w :=
  run_eqGuard_agg w .neq 42 x y _ _ (by kernel_rfl)

set_option maxRecDepth 100000 in
set_option maxHeartbeats 4000000 in
theorem csleq_any (B : Nat) (v u : Value) (l m : List ParC) (w : World) (h : ParsAt w B v l) (h2 : ParsAt w B u m) (hB : B ≤ w.heap.size) :
    Calls Tryd.prog 35 #[v, u] w fun e w' => e = .returned (.bool (decide (l = m))) ∧ Below w.heap.size w w' := by
  obtain ⟨ao, cap, rfl, hc1, hc2, hat⟩ := h
  obtain ⟨bo, cap2, rfl, hd1, hd2, hat2⟩ := h2
  have Hat := Lib.hid hat
  have Hat2 := Lib.hid hat2
  unfold maxLen at hc2 hd2
  obtain ⟨R, hR⟩ : ∃ R, decide (l = m) = R := ⟨_, rfl⟩
  rw [hR]
  have HR := Lib.hid hR
  obtain ⟨n, hn⟩ : ∃ n, l.length = n := ⟨_, rfl⟩
  obtain ⟨k, hk⟩ : ∃ k, m.length = k := ⟨_, rfl⟩
  rw [hn] at hc1 ⊢
  rw [hk] at hd1 ⊢
  have Hn := Lib.hid (And.intro hn hk)
  clear hat hat2 hR hn hk
  by_cases hnk : n = k
  · subst hnk
    go_enter Tryd.func35, Tryd.ntmps35
    go_wp2
    go_loopw [13] (fun iv wr => ∃ i : Nat, i ≤ n ∧ iv = .int .i64 i ∧ Hid (∀ j (hj : j < l.length) (hj2 : j < m.length), j < i → l[j] = m[j]) ∧ Below w.heap.size w wr) (fun iv _ => n - (intOf iv).toNat)
    case atStart => exact ⟨0, by omega, rfl, Lib.hid (fun j _ _ h => by omega), Below.refl _ _⟩
    case round =>
      obtain ⟨i, hi, rfl, hg, hbr⟩ := hrel
      by_cases hlt : i < n
      · have hil : i < l.length := by rw [Hn.out.1]; exact hlt
        have him : i < m.length := by rw [Hn.out.2]; exact hlt
        obtain ⟨g, off, rfl, hgB, z0, z1⟩ := Hat.out i hil
        obtain ⟨g2, off2, rfl, hgB2, x0, x1⟩ := Hat2.out i him
        have hyes : Hid (l[i] = m[i] → ∀ j (hj : j < l.length) (hj2 : j < m.length), j < i + 1 → l[j] = m[j]) := Lib.hid fun h j hj hj2 h3 => by
          rcases Nat.lt_or_ge j i with h4 | h4
          · exact hg.out j hj hj2 h4
          · obtain rfl : j = i := by omega
            exact h
        have hno : Hid (l[i] ≠ m[i] → false = R) := Lib.hid fun h => by
          rw [← HR.out]
          exact (decide_eq_false (fun e => h (by subst e; rfl))).symm
        obtain ⟨f, hf⟩ : ∃ f, l[i] = f := ⟨_, rfl⟩
        obtain ⟨f2, hf2⟩ : ∃ f, m[i] = f := ⟨_, rfl⟩
        rw [hf] at z0 z1 hyes hno
        rw [hf2] at x0 x1 hyes hno
        obtain ⟨X, hX⟩ : ∃ X, textQ f.1 = X := ⟨_, rfl⟩
        obtain ⟨Y, hY⟩ : ∃ Y, textQ f.2 = Y := ⟨_, rfl⟩
        obtain ⟨X2, hX2⟩ : ∃ X, textQ f2.1 = X := ⟨_, rfl⟩
        obtain ⟨Y2, hY2⟩ : ∃ Y, textQ f2.2 = Y := ⟨_, rfl⟩
        have e1 : (X.toList == X2.toList) = (f.1 == f2.1) := by rw [← hX, ← hX2, str_eqC]
        have e2 : (Y.toList == Y2.toList) = (f.2 == f2.2) := by rw [← hY, ← hY2, str_eqC]
        rw [hX] at z0
        rw [hY] at z1
        rw [hX2] at x0
        rw [hY2] at x1
        have y0 := (hbr.cell (p := ⟨g, off + i * 2, none⟩) (by show g < w.heap.size; omega)).trans z0
        have y1 := (hbr.cell (p := ⟨g, off + i * 2 + 1, none⟩) (by show g < w.heap.size; omega)).trans z1
        have v0 := (hbr.cell (p := ⟨g2, off2 + i * 2, none⟩) (by show g2 < w.heap.size; omega)).trans x0
        have v1 := (hbr.cell (p := ⟨g2, off2 + i * 2 + 1, none⟩) (by show g2 < w.heap.size; omega)).trans x1
        have hcm := fun W => run_par_neq X Y X2 Y2 W
        have hgd := fun x y W => run_par_guard x y X Y X2 Y2 W
        rw [e1, e2] at hcm
        obtain ⟨b, hb⟩ : ∃ b, (!((f.1 == f2.1) && (f.2 == f2.2))) = b := ⟨_, rfl⟩
        simp only [hb] at hcm
        clear z0 z1 x0 x1 hil him hf hf2 hX hY hX2 hY2 hg e1 e2
        cases b with
        | true =>
          have Hn := Lib.hid (hno.out (by rintro rfl; simp at hb))
          clear hyes hno hb
          go_wp2_with fail
          go_quiet (fail)
          have hb2 := below_drewN hbr nq
          clear hbr y0 y1 v0 v1
          go_wp2
          go_ret
          exact ⟨by rw [← Hn.out]; rfl, hb2⟩
        | false =>
          have Hn := Lib.hid (hyes.out (by
            simp only [Bool.not_eq_false', Bool.and_eq_true, beq_iff_eq] at hb
            exact Prod.ext hb.1 hb.2))
          clear hyes hno hb
          go_wp2_with fail
          go_quiet (fail)
          have hb2 := below_drewN hbr nq
          clear hbr y0 y1 v0 v1
          go_wp2
          go_roundw
          case rel => exact ⟨i + 1, by omega, by go_num, Hn, hb2⟩
          case measure => simp [intOf]; omega
      · obtain rfl : i = n := by omega
        have hall : true = R := by
          rw [← HR.out]
          exact (decide_eq_true (List.ext_getElem (by rw [Hn.out.1, Hn.out.2]) fun j h1 h2 => hg.out j h1 h2 (by rw [← Hn.out.1]; exact h1))).symm
        subst hall
        clear hg
        go_wp2
        go_ret
        exact ⟨rfl, hbr⟩
  · have hR2 : false = R := by
      rw [← HR.out]
      exact (decide_eq_false (fun e => hnk (by rw [← Hn.out.1, ← Hn.out.2, e]))).symm
    subst hR2
    have hnk2 : ((n : Int) == (k : Int)) = false := by rw [beq_eq_false_iff_ne]; omega
    go_enter Tryd.func35, Tryd.ntmps35
    go_wp2
    go_ret
    exact ⟨rfl, Below.refl _ _⟩

set_option maxRecDepth 100000 in
set_option maxHeartbeats 4000000 in
theorem csame_any (B : Nat) (v u : Value) (s t : TypeC) (w : World) (h : ParsAt w B v s.2.2) (h2 : ParsAt w B u t.2.2) (hB : B ≤ w.heap.size) :
    Calls Tryd.prog 19 #[typeV s v, typeV t u] w fun e w' => e = .returned (.bool (decide (s = t))) ∧ Below w.heap.size w w' := by
  obtain ⟨ao, cap, rfl, hc1, hc2⟩ := h.slice
  obtain ⟨bo, cap2, rfl, hd1, hd2⟩ := h2.slice
  have hp : Hid (∀ W, Below w.heap.size w W → Calls Tryd.prog 35 #[.slice ao s.2.2.length cap, .slice bo t.2.2.length cap2] W fun e w' => e = .returned (.bool (decide (s.2.2 = t.2.2))) ∧ Below W.heap.size W w') := Lib.hid fun W hW => csleq_any B _ _ s.2.2 t.2.2 W (h.below hW hB) (h2.below hW hB) (Nat.le_trans hB hW.size)
  have e : decide (s = t) = ((s.1 == t.1) && ((s.2.1 == t.2.1) && decide (s.2.2 = t.2.2))) := by
    obtain ⟨s1, s2, s3⟩ := s
    obtain ⟨t1, t2, t3⟩ := t
    have hb : ∀ a b : TextA, (a == b) = decide (a = b) := fun a b => by by_cases h : a = b <;> simp [h]
    rw [hb, hb]
    simp [Prod.ext_iff, Bool.decide_and]
  rw [e]
  clear e
  unfold typeV
  rw [← str_eqC s.1 t.1, ← str_eqC s.2.1 t.2.1]
  obtain ⟨X, hX⟩ : ∃ X, textQ s.1 = X := ⟨_, rfl⟩
  obtain ⟨Y, hY⟩ : ∃ Y, textQ s.2.1 = Y := ⟨_, rfl⟩
  obtain ⟨X2, hX2⟩ : ∃ X, textQ t.1 = X := ⟨_, rfl⟩
  obtain ⟨Y2, hY2⟩ : ∃ Y, textQ t.2.1 = Y := ⟨_, rfl⟩
  obtain ⟨n, hn⟩ : ∃ n, s.2.2.length = n := ⟨_, rfl⟩
  obtain ⟨k, hk⟩ : ∃ k, t.2.2.length = k := ⟨_, rfl⟩
  obtain ⟨b3, hb3⟩ : ∃ b, decide (s.2.2 = t.2.2) = b := ⟨_, rfl⟩
  rw [hX, hY, hX2, hY2, hn, hk, hb3]
  rw [hn, hk, hb3] at hp
  obtain ⟨w0, hw0⟩ : ∃ w0, (w.alloc (.cells #[.string X, .string Y, .slice ao n cap] 24)).alloc (.cells #[.string X2, .string Y2, .slice bo k cap2] 24) = w0 := ⟨_, rfl⟩
  have b0 : Below w.heap.size w w0 := by rw [← hw0]; exact ((Below.refl _ _).alloc (Nat.le_refl _) _).alloc (by simp) _
  have t0 : TypAt w0 w.heap.size X Y ao n cap := by rw [← hw0]; exact (typ_new w _ _ _ _ _).below ((Below.refl _ _).alloc (Nat.le_refl _) _)
  have t1 : TypAt w0 (w.heap.size + 1) X2 Y2 bo k cap2 := by
    rw [← hw0]
    have := typ_new (w.alloc (.cells #[.string X, .string Y, .slice ao n cap] 24)) X2 Y2 bo k cap2
    rw [World.size_alloc] at this
    exact this
  obtain ⟨c0, c1, c2, _⟩ := t0.cells
  obtain ⟨d0, d1, d2, _⟩ := t1.cells
  have hp0 := hp.out w0 b0
  clear h h2 hX hY hX2 hY2 hn hk hb3 t0 t1 hp hc1 hc2 hd1 hd2
  cases q1 : (X.toList == X2.toList) with
  | false =>
    go_enter Tryd.func19, Tryd.ntmps19
    go_wp2_with fail
    go_ret
    exact ⟨rfl, b0⟩
  | true =>
    cases q2 : (Y.toList == Y2.toList) with
    | false =>
      go_enter Tryd.func19, Tryd.ntmps19
      go_wp2_with fail
      go_ret
      exact ⟨rfl, b0⟩
    | true =>
      go_enter Tryd.func19, Tryd.ntmps19
      go_wp2_with (go_at_call 35; refine hp0.mono ?_; rintro e w1 ⟨rfl, hw1⟩)
      go_ret
      exact ⟨rfl, b0.trans (hw1.mono b0.size)⟩

theorem sclone_anyC (s : ByteArray) (w : World) (hs : s.size ≤ 281474976710656) : Calls Tryd.prog 32 #[.string s] w fun e w' => e = .returned (.string s) ∧ Below w.heap.size w w' := by
  have hc := Tryd.stringslite_Clone s w hs
  go_enter Tryd.func32, Tryd.ntmps32
  go_wp2_with (go_at_call 46; refine hc.mono ?_; rintro e w' ⟨rfl, hw⟩)
  go_ret
  exact ⟨rfl, hw⟩
/-- What asking for a parameter comes to. -/
def paramV (l : List ParC) (n : TextA) : Value := match findC l n with
  | none => .tuple #[.string ⟨#[]⟩, .bool false]
  | some p => .tuple #[.string (textQ p.2), .bool true]
set_option maxRecDepth 100000 in
set_option maxHeartbeats 4000000 in
theorem cparam_any (B : Nat) (v : Value) (t : TypeC) (n : TextA) (w : World) (h : ParsAt w B v t.2.2) (hB : B ≤ w.heap.size) (hs : ∀ p ∈ t.2.2, p.2.length ≤ 281474976710656) :
    Calls Tryd.prog 14 #[typeV t v, .string (textQ n)] w fun e w' => e = .returned (paramV t.2.2 n) ∧ Below w.heap.size w w' := by
  obtain ⟨ao, cap, rfl, hc1, hc2⟩ := h.slice
  have hp : Hid (∀ W, Below w.heap.size w W → Calls Tryd.prog 31 #[.slice ao t.2.2.length cap, .string (textQ n)] W fun e w' => e = .returned (.int .i64 (idxC t.2.2 n)) ∧ Below W.heap.size W w') := Lib.hid fun W hW => cplace_any B _ t.2.2 n W (h.below hW hB) (Nat.le_trans hB hW.size)
  have Hat : Hid (∀ W, Below w.heap.size w W → ParsAt W B (.slice ao t.2.2.length cap) t.2.2) := Lib.hid fun W hW => h.below hW hB
  have HS := Lib.hid hs
  unfold typeV paramV
  unfold maxLen at hc2
  obtain ⟨X, hX⟩ : ∃ X, textQ t.1 = X := ⟨_, rfl⟩
  obtain ⟨Y, hY⟩ : ∃ Y, textQ t.2.1 = Y := ⟨_, rfl⟩
  obtain ⟨N, hN⟩ : ∃ N, textQ n = N := ⟨_, rfl⟩
  obtain ⟨l, hl⟩ : ∃ l, t.2.2 = l := ⟨_, rfl⟩
  rw [hl] at hp Hat HS hc1
  rw [hX, hY, hN, hl]
  rw [hN] at hp
  have hic := idx_cases l n
  obtain ⟨k, hk⟩ : ∃ k, l.length = k := ⟨_, rfl⟩
  rw [hk] at hp Hat hc1 ⊢
  have Hk := Lib.hid hk
  obtain ⟨w0, hw0⟩ : ∃ w0, w.alloc (.cells #[.string X, .string Y, .slice ao k cap] 24) = w0 := ⟨_, rfl⟩
  have b0 : Below w.heap.size w w0 := by rw [← hw0]; exact (Below.refl _ _).alloc (Nat.le_refl _) _
  have t0 : TypAt w0 w.heap.size X Y ao k cap := by rw [← hw0]; exact typ_new w _ _ _ _ _
  obtain ⟨c0, c1, c2, _⟩ := t0.cells
  have T0 := Lib.hid t0
  have hp0 := hp.out w0 b0
  clear h hX hY hN hl hk hs t0 hp
  rcases hic with ⟨h1, h2, _⟩ | ⟨i, hi, h1, h2, _⟩
  · rw [h1] at hp0
    rw [h2]
    clear h1 h2
    go_enter Tryd.func14, Tryd.ntmps14
    go_wp2_with (go_at_call 31; refine hp0.mono ?_; rintro e w1 ⟨rfl, hw1⟩)
    go_ret2
    exact ⟨rfl, b0.trans (hw1.mono b0.size)⟩
  · rw [h1] at hp0
    rw [h2]
    obtain ⟨f, hf⟩ : ∃ f, l[i] = f := ⟨_, rfl⟩
    have hfl := HS.out l[i] (List.getElem_mem hi)
    have hat : Hid (∀ W, Below w.heap.size w W → ∃ g off, ao = some ⟨g, off, none⟩ ∧ g < B ∧ W.cell? ⟨g, off + i * 2, none⟩ = some (.string (textQ f.1)) ∧ W.cell? ⟨g, off + i * 2 + 1, none⟩ = some (.string (textQ f.2))) := Lib.hid fun W hW => by
      obtain ⟨ao2, cap2, e, _, _, h4⟩ := Hat.out W hW
      cases e
      obtain ⟨g, off, q1, q2, q3, q4⟩ := h4 i hi
      rw [hf] at q3 q4
      exact ⟨g, off, q1, q2, q3, q4⟩
    rw [hf] at hfl ⊢
    obtain ⟨P, hP⟩ : ∃ P, textQ f.1 = P := ⟨_, rfl⟩
    obtain ⟨Q, hQ⟩ : ∃ Q, textQ f.2 = Q := ⟨_, rfl⟩
    rw [hP, hQ] at hat
    show Calls _ _ _ _ fun e w' => e = .returned (.tuple #[.string (textQ f.2), .bool true]) ∧ _
    rw [hQ]
    have hQs : Q.size ≤ 281474976710656 := by rw [← hQ]; exact hfl
    have hcl := fun W => sclone_anyC Q W hQs
    have hik : (i : Int) < (k : Int) := by have := Hk.out; omega
    have hi0 : ¬ (i : Int) < 0 := by omega
    clear h1 h2 hf hfl hP hQ hQs Hat hi
    go_enter Tryd.func14, Tryd.ntmps14
    go_wp2_with fail
    refine hp0.mono ?_
    rintro e w1 ⟨rfl, hw1⟩
    have b1 := b0.trans (hw1.mono b0.size)
    obtain ⟨g, off, rfl, q1, q2, q3⟩ := hat.out w1 b1
    obtain ⟨d0, d1, d2, _⟩ := (T0.out.below hw1).cells
    clear hw1 hp0 hat
    go_wp2_with (go_at_call 32; refine (hcl _).mono ?_; rintro e w2 ⟨rfl, hw2⟩)
    go_ret2
    exact ⟨rfl, b1.trans (hw2.mono b1.size)⟩
end Go.Proofs.YtafpifpgfpkckaaDoor
