/-
  Parameters appended to a row of somebody's own; a row's first, empty block.
-/
import Derived.Test.YtafpifpgfpkckaaDoorArgs12
import Derived.Test.YtafpifpgfpkckaaDoorAwake12
import Derived.Test.YtafpifpgfpkckaaDoorFew12
import Derived.Laws.AppendOwnNone
import Derived.Deep.RegionHeldLaw
namespace Go.Proofs.YtafpifpgfpkckaaDoor
open Go.RowKit

theorem pars_append (l k : List ParC) : parsCells (l ++ k) = parsCells l ++ parsCells k := by simp [parsCells]
theorem pars_one (l : List ParC) : ∀ u ∈ parsCells l, u.oneCell' = true := by
  intro u hu
  unfold parsCells at hu
  obtain ⟨f, _, hf⟩ := List.mem_flatMap.1 hu
  simp only [parCells, List.mem_cons, List.not_mem_nil, or_false] at hf
  rcases hf with rfl | rfl <;> rfl
theorem pars_get (l : List ParC) (j : Nat) (u : Value) (h : (parsCells l)[j]? = some u) : j / 2 < l.length ∧ ((j % 2 = 0 ∧ ∀ hj : j / 2 < l.length, u = .string (textQ (l[j / 2]'hj).1)) ∨ (j % 2 = 1 ∧ ∀ hj : j / 2 < l.length, u = .string (textQ (l[j / 2]'hj).2))) := by
  have hlt : j < (parsCells l).length := by
    rcases Nat.lt_or_ge j (parsCells l).length with h1 | h1
    · exact h1
    · rw [List.getElem?_eq_none h1] at h; cases h
  rw [pars_lenC] at hlt
  have hd : j / 2 < l.length := by omega
  obtain ⟨c0, c1⟩ := pars_at l (j / 2) hd
  refine ⟨hd, ?_⟩
  rcases (by omega : j % 2 = 0 ∨ j % 2 = 1) with h2 | h2
  · refine .inl ⟨h2, fun _ => ?_⟩
    rw [show j / 2 * 2 = j by omega, h] at c0
    exact Option.some.inj c0
  · refine .inr ⟨h2, fun _ => ?_⟩
    rw [show j / 2 * 2 + 1 = j by omega, h] at c1
    exact Option.some.inj c1
theorem step_append_pars {w : World} {ops : Array Oper} {o : Oper} {a : Act} {K : Act → World → Prop} {Q : Exit → Act → World → Prop} {E : Prop} (hgd : o.guard = none) (s x : Operand)
    (ho : o.op = .call { callee := .builtin .append, args := #[s, x], argTypes := #[22, 22] }) (B : Nat) (v : Value) (l : List ParC) (hs : a.eval s = v) (hown : ParsOwn w B v l) (hB : B ≤ w.heap.size)
    (vx : Value) (k : List ParC) (Bx : Nat) (hx : a.eval x = vx) (hat : ParsAt w Bx vx k) (hnil : NilC vx) (hl : l.length + k.length ≤ 1000000)
    (h : ∀ v' w', ParsOwn w' B v' (l ++ k) → w.grownBy w' v.ownBlock → K (a.put o.dst v') w') : if Region.wanted o (yielded ops a.tmps) = true then Oper.wp Tryd.prog o a w K Q else E := by
  have hw : Region.wanted o (yielded ops a.tmps) = true := by simp [Region.wanted, hgd]
  rw [if_pos hw]
  obtain ⟨i0, hi, hz0, hz1, hz2⟩ := info_parts infoPar
  obtain ⟨ao, cap, rfl, hc1, hc2, hcl⟩ := hat
  obtain ⟨ao', n', c', e, hn⟩ := hnil
  cases e
  cases ao with
  | none =>
    obtain ⟨h0, rfl⟩ := hn rfl
    have hk : k = [] := List.eq_nil_of_length_eq_zero h0
    subst hk
    have hrun := run_append_owned_none (P := Tryd.prog) (w := w) B 22 o.type 42 i0 2 Tryd.underlying22 hi v l.length (parsCells l) hown
    unfold Oper.wp
    simp [execOp, ho, resolve, invoke, builtin, hs, hx, hrun, Result.andThen]
    exact h v w (by rw [List.append_nil]; exact hown) ⟨rfl, rfl, rfl, Nat.le_refl _, fun _ _ _ => rfl⟩
  | some ad =>
    refine wp_append_own w s x 22 ho B 42 i0 (.agg #[.string ⟨#[]⟩, .string ⟨#[]⟩]) 2 32 Tryd.underlying22 hi hz0 hz1 hz2 rfl (by decide) v l.length (parsCells l) hs hown ad k.length cap (parsCells k) hx (pars_lenC k) (fun j u hj => ?_) (pars_one k) (by unfold maxLen; omega) (by omega) hB (fun v' w' q1 q2 _ => ?_)
    · obtain ⟨hd, hv⟩ := pars_get k j u hj
      obtain ⟨g, off, e, hg, q0, q1⟩ := hcl (j / 2) hd
      cases e
      rw [Addr.add_lit]
      rcases hv with ⟨h2, hv⟩ | ⟨h2, hv⟩
      · have e2 : off + j / 2 * 2 = off + j := by omega
        rw [e2] at q0
        rw [hv hd]
        exact q0
      · have e2 : off + j / 2 * 2 + 1 = off + j := by omega
        rw [e2] at q1
        rw [hv hd]
        exact q1
    · refine h v' w' ?_ q2
      unfold ParsOwn
      rw [pars_append, List.length_append]
      exact q1
theorem own_empty_geC (w : World) (B : Nat) (hB : B ≤ w.heap.size) : ParsOwn (w.alloc (.cells #[] 42)) B (.slice (some ⟨w.heap.size, 0, none⟩) 0 0) [] :=
  ⟨rfl, .inr ⟨w.heap.size, 0, #[], rfl, hB, heap_alloc_new w _, Nat.le_refl _, by decide, rfl, rfl⟩⟩
theorem single_atC {w : World} {g : Nat} {f : ParC} (h : w.heap[g]? = some (.cells #[.string (textQ f.1), .string (textQ f.2)] 42 (0, 0))) : ParsAt w w.heap.size (.slice (some ⟨g, 0, none⟩) 1 1) [f] := by
  refine ⟨_, 1, rfl, Nat.le_refl _, by decide, fun i hi => ⟨g, 0, rfl, (Array.getElem?_eq_some_iff.1 h).1, ?_⟩⟩
  obtain rfl : i = 0 := by simp at hi; omega
  exact ⟨Lib.cell_of_heap h 0, Lib.cell_of_heap h 1⟩
/-- The first places of a row. -/
theorem run_par_head (ao : Option Addr) (n cap k : Nat) (i : Int) (hi : i = k) (h : k ≤ cap) (W : World) : (Instr.slice 22 (.slice ao n cap) none (some (.int .i64 i)) none).run Tryd.prog W = .ok (sliced ao 0 k cap 2) W := by
  have hu : Tryd.prog.underlying 22 = some (.slice (Tryd.prog.elem 22)) := by kernel_rfl
  have hz : (sizeOf (Tryd.prog.elem 22)).run Tryd.prog W = .ok 2 W := by
    rw [show Tryd.prog.elem 22 = 42 by kernel_rfl]
    go_simp
  rw [run_slice_h W 22 ao n cap hu .i64 i (by omega) (by omega), hz, hi]
  rfl
theorem pars_head {w : World} {B n cap k : Nat} {ao : Option Addr} {ps : List ParC} (h : ParsAt w B (.slice ao n cap) ps) (hn : ps.length = n) (hk : k ≤ n) : ParsAt w B (sliced ao 0 k cap 2) (ps.take k) := by
  obtain ⟨ao2, cap2, e, h2, h3, h4⟩ := h
  cases e
  rw [hn] at h2
  have hl : (ps.take k).length = k := by rw [List.length_take]; omega
  refine ⟨_, _, by unfold sliced; rw [hl, Nat.sub_zero], by rw [hl]; omega, Nat.le_trans (Nat.sub_le _ _) h3, fun j hj => ?_⟩
  rw [hl] at hj
  obtain ⟨g, off, rfl, q1, q2, q3⟩ := h4 j (by omega)
  rw [if_neg (by omega)]
  refine ⟨g, off, by simp [Addr.add], q1, ?_, ?_⟩
  · rw [List.getElem_take]
    exact q2
  · rw [List.getElem_take]
    exact q3
theorem row_blockC {w : World} {B : Nat} {v : Value} {l : List ParC} (h : ParsOwn w B v l) {k : Nat} (hk : v.ownBlock = some k) : B ≤ k ∧ k < w.heap.size := h.lt k hk
end Go.Proofs.YtafpifpgfpkckaaDoor
