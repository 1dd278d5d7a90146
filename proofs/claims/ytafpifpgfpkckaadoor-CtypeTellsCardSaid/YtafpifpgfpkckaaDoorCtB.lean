/-
  Rows of parameters: somebody's own, to which one is appended; rows that lie wherever; placeOf, hasName, rightParams and Right.
-/
import Derived.Test.YtafpifpgfpkckaaDoorCtA
import Derived.Deep.RegionHeld3
import Derived.Laws.AppendOwn
import Derived.Laws.OwnMore
namespace Go.Proofs.YtafpifpgfpkckaaDoor
open Go.RowKit

theorem infoPar : (Tryd.prog.info? 42).map (fun i => (i.zero, i.size, i.bytes)) = some (some (.agg #[.string ⟨#[]⟩, .string ⟨#[]⟩]), 2, 32) := by kernel_rfl
/-- Parameters, as a row of somebody's own. -/
def parCells (p : ParC) : List Value := [.string (textQ p.1), .string (textQ p.2)]
def parsCells (l : List ParC) : List Value := l.flatMap parCells
theorem pars_lenC (l : List ParC) : (parsCells l).length = l.length * 2 := by
  induction l with
  | nil => rfl
  | cons a l ih =>
    show (parCells a ++ parsCells l).length = _
    rw [List.length_append, ih, List.length_cons]
    simp [parCells]
    omega
theorem pars_at : ∀ (l : List ParC) (i : Nat) (h : i < l.length), (parsCells l)[i * 2]? = some (.string (textQ l[i].1)) ∧ (parsCells l)[i * 2 + 1]? = some (.string (textQ l[i].2))
  | a :: l, 0, _ => ⟨rfl, rfl⟩
  | a :: l, i + 1, h => by
    obtain ⟨h1, h2⟩ := pars_at l i (by simpa using h)
    have e : ∀ k, (parsCells (a :: l))[(i + 1) * 2 + k]? = (parsCells l)[i * 2 + k]? := fun k => by
      show (parCells a ++ parsCells l)[(i + 1) * 2 + k]? = _
      rw [List.getElem?_append_right (by simp [parCells]; omega)]
      congr 1
      simp [parCells]
      omega
    exact ⟨(e 0).trans h1, (e 1).trans h2⟩
abbrev ParsOwn (w : World) (B : Nat) (v : Value) (l : List ParC) : Prop := w.ownsRow B 42 2 v l.length (parsCells l)
theorem append_parC {w : World} {ops : Array Oper} {rest : List Oper} {o : Oper} {a : Act} {Q : Exit → Act → World → Prop} (hgd : o.guard = none) (s x : Operand)
    (ho : o.op = .call { callee := .builtin .append, args := #[s, x], argTypes := #[22, 22] }) (B : Nat) (v : Value) (l : List ParC) (p : ParC) (hs : a.eval s = v) (hown : ParsOwn w B v l) (hB : B ≤ w.heap.size) (hl : l.length ≤ 1000000)
    (b c : Nat) (hx : a.eval x = .slice (some ⟨b, 0, none⟩) 1 c) (h0 : w.cell? ⟨b, 0, none⟩ = some (.string (textQ p.1))) (h1 : w.cell? ⟨b, 1, none⟩ = some (.string (textQ p.2)))
    (h : ∀ v' w', ParsOwn w' B v' (l ++ [p]) → w.grownBy w' v.ownBlock → wpList Tryd.prog ops Q rest (a.put o.dst v') w') : wpList Tryd.prog ops Q (o :: rest) a w := by
  obtain ⟨i0, hi, hz0, hz1, hz2⟩ := info_parts infoPar
  refine wpList_append_own w hgd s x 22 ho B 42 i0 (.agg #[.string ⟨#[]⟩, .string ⟨#[]⟩]) 2 32 Tryd.underlying22 hi hz0 hz1 hz2 rfl (by decide) v l.length _ hs hown ⟨b, 0, none⟩ 1 c (parCells p) hx rfl (fun j u hj => ?_) (fun u hu => ?_) (by unfold maxLen; omega) (by omega) hB (fun v' w' q1 q2 _ => ?_)
  · rw [Addr.add_lit, Nat.zero_add]
    match j, hj with
    | 0, hj => cases hj; exact h0
    | 1, hj => cases hj; exact h1
    | j + 2, hj => cases hj
  · simp only [parCells, List.mem_cons, List.not_mem_nil, or_false] at hu
    rcases hu with rfl | rfl <;> rfl
  · refine h v' w' ?_ q2
    unfold ParsOwn
    rw [List.length_append, show parsCells (l ++ [p]) = parsCells l ++ parCells p by simp [parsCells]]
    exact q1
/-- Parameters that lie in memory, wherever. -/
def ParsAt (w : World) (B : Nat) (v : Value) (l : List ParC) : Prop :=
  ∃ ao cap, v = .slice ao l.length cap ∧ l.length ≤ cap ∧ cap ≤ maxLen ∧ ∀ i (hi : i < l.length), ∃ g off, ao = some ⟨g, off, none⟩ ∧ g < B ∧
    w.cell? ⟨g, off + i * 2, none⟩ = some (.string (textQ l[i].1)) ∧ w.cell? ⟨g, off + i * 2 + 1, none⟩ = some (.string (textQ l[i].2))
theorem ParsAt.below {w w' : World} {B B' : Nat} {v : Value} {l : List ParC} (h : ParsAt w B v l) (hb : Below B' w w') (hB : B ≤ B') : ParsAt w' B v l := by
  obtain ⟨ao, cap, h1, h2, h3, h4⟩ := h
  refine ⟨ao, cap, h1, h2, h3, fun i hi => ?_⟩
  obtain ⟨g, off, q1, q2, q3, q4⟩ := h4 i hi
  have hc : ∀ j, w'.cell? ⟨g, j, none⟩ = w.cell? ⟨g, j, none⟩ := fun j => hb.cell (p := ⟨g, j, none⟩) (by show g < B'; omega)
  exact ⟨g, off, q1, q2, (hc _).trans q3, (hc _).trans q4⟩
theorem ParsAt.up {w : World} {B B' : Nat} {v : Value} {l : List ParC} (h : ParsAt w B v l) (hB : B ≤ B') : ParsAt w B' v l := by
  obtain ⟨ao, cap, h1, h2, h3, h4⟩ := h
  refine ⟨ao, cap, h1, h2, h3, fun i hi => ?_⟩
  obtain ⟨g, off, q1, q2, q3⟩ := h4 i hi
  exact ⟨g, off, q1, by omega, q3⟩
theorem ParsAt.nil (w : World) (B : Nat) : ParsAt w B (.slice none 0 0) [] := ⟨none, 0, rfl, Nat.le_refl _, by simp, fun i hi => absurd hi (by simp)⟩
theorem ParsOwn.at {w : World} {B : Nat} {v : Value} {l : List ParC} (h : ParsOwn w B v l) : ParsAt w w.heap.size v l := by
  obtain ⟨h1, h2⟩ := h
  rcases h2 with ⟨rfl, h0⟩ | ⟨g, cap, cur, rfl, hg, hb, hc, hm, hs, ht⟩
  · have hl : l = [] := List.eq_nil_of_length_eq_zero h0
    subst hl
    exact ParsAt.nil _ _
  · refine ⟨_, cap, rfl, hc, hm, fun i hi => ⟨g, 0, rfl, heap_lt hb, ?_⟩⟩
    obtain ⟨c0, c1⟩ := pars_at l i hi
    have hcell : ∀ j u, (parsCells l)[j]? = some u → j < l.length * 2 → w.cell? ⟨g, j, none⟩ = some u := fun j u hj hlt => by
      rw [Lib.cell_of_heap hb j]
      rw [← ht, List.getElem?_take_of_lt hlt] at hj
      rw [← hj]
      simp
    have q0 := hcell _ _ c0 (by omega)
    have q1 := hcell _ _ c1 (by omega)
    rw [show 0 + i * 2 = i * 2 by omega]
    exact ⟨q0, q1⟩
/-- A parameter that lies in a block of its own. -/
def ParAt (w : World) (B : Nat) (X Y : ByteArray) : Prop := w.heap[B]? = some (.cells #[.string X, .string Y] 42 (0, 0))
section
variable {w w' : World} {B : Nat} {X Y : ByteArray}
theorem ParAt.lt (h : ParAt w B X Y) : B < w.heap.size := heap_lt h
theorem ParAt.cells (h : ParAt w B X Y) : w.cell? ⟨B, 0, none⟩ = some (.string X) ∧ w.cell? ⟨B, 1, none⟩ = some (.string Y) ∧ w.frozen? ⟨B, 0, none⟩ = false ∧ w.frozen? ⟨B, 1, none⟩ = false :=
  ⟨Lib.cell_of_heap h 0, Lib.cell_of_heap h 1, Lib.frozen_of_heap h 0, Lib.frozen_of_heap h 1⟩
theorem ParAt.below (h : ParAt w B X Y) (hb : Below w.heap.size w w') : ParAt w' B X Y := (hb.block _ h.lt).trans h
theorem par_new (w : World) (X Y : ByteArray) : ParAt (w.alloc (.cells #[.string X, .string Y] 42)) w.heap.size X Y := heap_alloc_new w _
end

/-- The place of a parameter of that name, or -1. -/
def idxC : List ParC → TextA → Int
  | [], _ => -1
  | p :: l, n => if p.1 = n then 0 else if idxC l n = -1 then -1 else idxC l n + 1
theorem idx_at : ∀ (l : List ParC) (n : TextA) (i : Nat) (h : i < l.length), l[i].1 = n → (∀ j (hj : j < l.length), j < i → l[j].1 ≠ n) → idxC l n = i
  | p :: l, n, 0, _, h, _ => by
    unfold idxC
    rw [if_pos (show p.1 = n from h)]
    rfl
  | p :: l, n, i + 1, hi, h, hb => by
    unfold idxC
    have ih := idx_at l n i (by simpa using hi) h (fun j hj h2 => hb (j + 1) (by simpa using hj) (by omega))
    rw [if_neg (show ¬ p.1 = n from hb 0 (by simp) (by omega)), ih, if_neg (by omega)]
    rfl
theorem idx_none : ∀ (l : List ParC) (n : TextA), (∀ j (hj : j < l.length), l[j].1 ≠ n) → idxC l n = -1
  | [], _, _ => rfl
  | p :: l, n, h => by
    unfold idxC
    rw [if_neg (show ¬ p.1 = n from h 0 (by simp)), if_pos (idx_none l n (fun j hj => h (j + 1) (by simpa using hj)))]
theorem idx_cases (l : List ParC) (n : TextA) : (idxC l n = -1 ∧ findC l n = none ∧ hasC l n = false) ∨ ∃ i, ∃ h : i < l.length, idxC l n = i ∧ findC l n = some l[i] ∧ hasC l n = true := by
  induction l with
  | nil => exact .inl ⟨rfl, rfl, rfl⟩
  | cons p l ih =>
    by_cases hp : p.1 = n
    · refine .inr ⟨0, by simp, ?_, ?_, ?_⟩
      · unfold idxC
        rw [if_pos hp]
        rfl
      · unfold findC
        rw [List.find?_cons, beq_iff_eq.2 hp]
        rfl
      · unfold hasC
        rw [List.any_cons, beq_iff_eq.2 hp, Bool.true_or]
    · have hb : (p.1 == n) = false := beq_eq_false_iff_ne.2 hp
      have e2 : findC (p :: l) n = findC l n := by
        unfold findC
        rw [List.find?_cons, hb]
      have e3 : hasC (p :: l) n = hasC l n := by
        unfold hasC
        rw [List.any_cons, hb, Bool.false_or]
      rw [e2, e3]
      unfold idxC
      rw [if_neg hp]
      rcases ih with ⟨h1, h2, h3⟩ | ⟨i, hi, h1, h2, h3⟩
      · rw [if_pos h1]
        exact .inl ⟨rfl, h2, h3⟩
      · rw [h1, if_neg (by omega)]
        exact .inr ⟨i + 1, by simpa using hi, rfl, h2, h3⟩
theorem has_idx (l : List ParC) (n : TextA) : decide ((0 : Int) ≤ idxC l n) = hasC l n := by
  rcases idx_cases l n with ⟨h1, _, h3⟩ | ⟨i, _, h1, _, h3⟩
  · rw [h1, h3]
    rfl
  · rw [h1, h3]
    exact decide_eq_true (by omega)

theorem str_eqC (s t : TextA) : ((textQ s).toList == (textQ t).toList) = (s == t) := by
  rw [Lib.toList_data, Lib.toList_data]
  rfl
set_option maxRecDepth 100000 in
theorem cplace1_any (X Y N : ByteArray) (O : Nat) (w : World) (hO : Boxed w O 9 (.string N)) :
    Calls Tryd.prog 45 #[.agg #[.string X, .string Y], .pointer (some ⟨O, 0, none⟩)] w fun e w' => e = .returned (.bool (X.toList == N.toList)) ∧ Below w.heap.size w w' := by
  have c1 := hO.cell
  have hl := hO.lt
  have hne : O ≠ w.heap.size := by omega
  clear hO
  go_enter Tryd.func45, Tryd.ntmps45
  go_wp2
  go_ret
  exact ⟨rfl, (Below.refl _ _).alloc (Nat.le_refl _) _⟩
theorem enter_place : ∀ args w, (callFunc 45 args).run Tryd.prog w = .ok (.enter 45 args) w := enters_of Tryd.func45 (by kernel_rfl) rfl

set_option maxRecDepth 100000 in
set_option maxHeartbeats 4000000 in
theorem cindex_any (B : Nat) (v : Value) (l : List ParC) (n : TextA) (O : Nat) (w : World) (h : ParsAt w B v l) (hB : B ≤ w.heap.size) (hO : Boxed w O 9 (.string (textQ n))) :
    Calls Tryd.prog 44 #[v, .func (.func 45) #[] #[.pointer (some ⟨O, 0, none⟩)]] w fun e w' => e = .returned (.int .i64 (idxC l n)) ∧ Below w.heap.size w w' := by
  obtain ⟨ao, cap, rfl, hc1, hc2, hat⟩ := h
  have Hat := Lib.hid hat
  obtain ⟨k, hkl⟩ : ∃ k, l.length = k := ⟨_, rfl⟩
  have Hk := Lib.hid hkl
  have HO := Lib.hid hO
  unfold maxLen at hc2
  obtain ⟨R, hR⟩ : ∃ R, idxC l n = R := ⟨_, rfl⟩
  rw [hkl] at hc1 ⊢
  rw [hR]
  have HR := Lib.hid hR
  have he := enter_place
  clear hat hkl hO hR
  go_enter Tryd.func44, Tryd.ntmps44
  go_wp2
  go_loopw [8] (fun iv wr => ∃ i : Nat, i ≤ k ∧ iv = .int .i64 i ∧ Hid (∀ j (hj : j < l.length), j < i → l[j].1 ≠ n) ∧ Below w.heap.size w wr) (fun iv _ => k - (intOf iv).toNat)
  case atStart => exact ⟨0, by omega, rfl, Lib.hid (fun j _ h => by omega), Below.refl _ _⟩
  case round =>
    obtain ⟨i, hi, rfl, hg, hbr⟩ := hrel
    by_cases hlt : i < k
    · have hil : i < l.length := by rw [Hk.out]; exact hlt
      obtain ⟨g, off, rfl, hgB, z0, z1⟩ := Hat.out i hil
      have hyes : Hid ((l[i].1 == n) = true → R = i) := Lib.hid fun h => HR.out.symm.trans (idx_at l n i hil (by simpa using h) hg.out)
      have hno : Hid ((l[i].1 == n) = false → ∀ j (hj : j < l.length), j < i + 1 → l[j].1 ≠ n) := Lib.hid fun h j hj h3 => by
        rcases Nat.lt_or_ge j i with h4 | h4
        · exact hg.out j hj h4
        · obtain rfl : j = i := by omega
          exact beq_eq_false_iff_ne.1 h
      have hcall := cplace1_any (textQ l[i].1) (textQ l[i].2) (textQ n) O wr (boxed_below HO.out hbr)
      rw [str_eqC] at hcall
      obtain ⟨f, hf⟩ : ∃ f, l[i] = f := ⟨_, rfl⟩
      rw [hf] at z0 z1 hyes hno hcall
      obtain ⟨X, hX⟩ : ∃ X, textQ f.1 = X := ⟨_, rfl⟩
      obtain ⟨Y, hY⟩ : ∃ Y, textQ f.2 = Y := ⟨_, rfl⟩
      rw [hX] at z0 hcall
      rw [hY] at z1 hcall
      have y0 := (hbr.cell (p := ⟨g, off + i * 2, none⟩) (by show g < w.heap.size; omega)).trans z0
      have y1 := (hbr.cell (p := ⟨g, off + i * 2 + 1, none⟩) (by show g < w.heap.size; omega)).trans z1
      have hbz := hbr.size
      clear z0 z1 hX hY hg hil hf
      cases hq : (f.1 == n) with
      | true =>
        rw [hq] at hcall
        have Hr := Lib.hid (hyes.out hq)
        clear hyes hno hq
        go_wp2_with (go_at_fn 45; refine hcall.mono ?_; rintro e w1 ⟨rfl, hw1⟩)
        have hb1 := hbr.trans (hw1.mono hbz)
        go_ret
        exact ⟨by rw [Hr.out]; rfl, hb1⟩
      | false =>
        rw [hq] at hcall
        have Hr := Lib.hid (hno.out hq)
        clear hyes hno hq
        go_wp2_with (go_at_fn 45; refine hcall.mono ?_; rintro e w1 ⟨rfl, hw1⟩)
        have hb1 := hbr.trans (hw1.mono hbz)
        go_roundw
        case rel => exact ⟨i + 1, by omega, by go_num, Hr, hb1⟩
        case measure => simp [intOf]; omega
    · obtain rfl : i = k := by omega
      have hall : R = -1 := HR.out.symm.trans (idx_none l n (fun j hj => hg.out j hj (by rw [← Hk.out]; exact hj)))
      have Hall := Lib.hid hall
      clear hall hg
      go_wp2
      go_ret
      exact ⟨by rw [Hall.out]; rfl, hbr⟩
set_option maxRecDepth 100000 in
theorem cplace_any (B : Nat) (v : Value) (l : List ParC) (n : TextA) (w : World) (h : ParsAt w B v l) (hB : B ≤ w.heap.size) :
    Calls Tryd.prog 31 #[v, .string (textQ n)] w fun e w' => e = .returned (.int .i64 (idxC l n)) ∧ Below w.heap.size w w' := by
  obtain ⟨N, hN⟩ : ∃ N, textQ n = N := ⟨_, rfl⟩
  have hmf : ∀ (fn : Fn) (first cap : Array Value) (w : World), (Instr.makeFunc fn first cap).run Tryd.prog w = .ok (.func fn first cap) w := fun _ _ _ _ => rfl
  have hcall := cindex_any B v l n w.heap.size (w.alloc (.cells #[.string N] 9)) (h.below ((Below.refl w.heap.size w).alloc (Nat.le_refl _) _) hB) (by simp; omega) (by rw [hN]; exact Boxed.new _ _ _)
  rw [hN]
  obtain ⟨R, hR⟩ : ∃ R, idxC l n = R := ⟨_, rfl⟩
  rw [hR] at hcall ⊢
  clear h hN hR
  go_enter Tryd.func31, Tryd.ntmps31
  go_wp2_with (go_at_call 44; refine hcall.mono ?_; rintro e w1 ⟨rfl, hw1⟩)
  go_ret
  exact ⟨rfl, ((Below.refl _ _).alloc (Nat.le_refl _) _).trans (hw1.mono (by simp))⟩
set_option maxRecDepth 100000 in
theorem chasn_any (B : Nat) (v : Value) (l : List ParC) (n : TextA) (w : World) (h : ParsAt w B v l) (hB : B ≤ w.heap.size) :
    Calls Tryd.prog 50 #[v, .string (textQ n)] w fun e w' => e = .returned (.bool (hasC l n)) ∧ Below w.heap.size w w' := by
  have hcall := cplace_any B v l n w h hB
  rw [← has_idx]
  obtain ⟨N, hN⟩ : ∃ N, textQ n = N := ⟨_, rfl⟩
  obtain ⟨R, hR⟩ : ∃ R, idxC l n = R := ⟨_, rfl⟩
  rw [hR] at hcall ⊢
  rw [hN] at hcall ⊢
  clear h hN hR
  go_enter Tryd.func50, Tryd.ntmps50
  go_wp2_with (go_at_call 31; refine hcall.mono ?_; rintro e w1 ⟨rfl, hw1⟩)
  go_ret
  exact ⟨rfl, hw1⟩
end Go.Proofs.YtafpifpgfpkckaaDoor
