/-
  Fields appended to a row of somebody's own; a row's first, empty block.
-/
import Derived.Test.YtneihcdeflfahaaDoorHdH
import Derived.Laws.AppendOwnNone
namespace Go.Proofs.YtneihcdeflfahaaDoor
open Go.RowKit

/-- None, or some row's. -/
def NilF (v : Value) : Prop := ∃ ao n c, v = .slice ao n c ∧ (ao = none → n = 0 ∧ c = 0)
theorem fields_len (l : List FieldH) : (fieldsCells l).length = l.length * 2 := by
  induction l with
  | nil => rfl
  | cons f l ih =>
    show (fieldCells f ++ fieldsCells l).length = _
    rw [List.length_append, ih, List.length_cons]
    simp [fieldCells]
    omega
theorem fields_append (l k : List FieldH) : fieldsCells (l ++ k) = fieldsCells l ++ fieldsCells k := by simp [fieldsCells]
theorem fields_one (l : List FieldH) : ∀ u ∈ fieldsCells l, u.oneCell' = true := by
  intro u hu
  unfold fieldsCells at hu
  obtain ⟨f, _, hf⟩ := List.mem_flatMap.1 hu
  simp only [fieldCells, List.mem_cons, List.not_mem_nil, or_false] at hf
  rcases hf with rfl | rfl <;> rfl
theorem fields_get (l : List FieldH) (j : Nat) (u : Value) (h : (fieldsCells l)[j]? = some u) : j / 2 < l.length ∧ ((j % 2 = 0 ∧ ∀ hj : j / 2 < l.length, u = .string (textQ (l[j / 2]'hj).1)) ∨ (j % 2 = 1 ∧ ∀ hj : j / 2 < l.length, u = .string (textQ (l[j / 2]'hj).2))) := by
  have hlt : j < (fieldsCells l).length := by
    rcases Nat.lt_or_ge j (fieldsCells l).length with h1 | h1
    · exact h1
    · rw [List.getElem?_eq_none h1] at h; cases h
  rw [fields_len] at hlt
  have hd : j / 2 < l.length := by omega
  obtain ⟨c0, c1⟩ := fields_at l (j / 2) hd
  refine ⟨hd, ?_⟩
  rcases (by omega : j % 2 = 0 ∨ j % 2 = 1) with h2 | h2
  · refine .inl ⟨h2, fun _ => ?_⟩
    rw [show j / 2 * 2 = j by omega, h] at c0
    exact Option.some.inj c0
  · refine .inr ⟨h2, fun _ => ?_⟩
    rw [show j / 2 * 2 + 1 = j by omega, h] at c1
    exact Option.some.inj c1
theorem wpList_append_fields {w : World} {ops : Array Oper} {rest : List Oper} {o : Oper} {a : Act} {Q : Exit → Act → World → Prop} (hgd : o.guard = none) (s x : Operand)
    (ho : o.op = .call { callee := .builtin .append, args := #[s, x], argTypes := #[22, 22] }) (B : Nat) (v : Value) (l : List FieldH) (hs : a.eval s = v) (hown : FieldsOwn w B v l) (hB : B ≤ w.heap.size)
    (vx : Value) (k : List FieldH) (Bx : Nat) (hx : a.eval x = vx) (hat : FieldsAt w Bx vx k) (hnil : NilF vx) (hl : l.length + k.length ≤ 1000000)
    (h : ∀ v' w', FieldsOwn w' B v' (l ++ k) → w.grownBy w' v.ownBlock → wpList Tryd.prog ops Q rest (a.put o.dst v') w') : wpList Tryd.prog ops Q (o :: rest) a w := by
  obtain ⟨i0, hi, hz0, hz1, hz2⟩ := info_parts infoField
  obtain ⟨ao, cap, rfl, hc1, hc2, hcl⟩ := hat
  obtain ⟨ao', n', c', e, hn⟩ := hnil
  cases e
  cases ao with
  | none =>
    obtain ⟨h0, rfl⟩ := hn rfl
    have hk : k = [] := List.eq_nil_of_length_eq_zero h0
    subst hk
    refine wpList_append_own_none hgd s x 22 ho B 38 i0 2 Tryd.underlying22 hi v l.length (fieldsCells l) hs hown hx ?_
    exact h v w (by rw [List.append_nil]; exact hown) ⟨rfl, rfl, rfl, Nat.le_refl _, fun _ _ _ => rfl⟩
  | some ad =>
    refine wpList_append_own w hgd s x 22 ho B 38 i0 (.agg #[.string ⟨#[]⟩, .string ⟨#[]⟩]) 2 32 Tryd.underlying22 hi hz0 hz1 hz2 rfl (by decide) v l.length (fieldsCells l) hs hown ad k.length cap (fieldsCells k) hx (fields_len k) (fun j u hj => ?_) (fields_one k) (by unfold maxLen; omega) (by omega) hB (fun v' w' q1 q2 _ => ?_)
    · obtain ⟨hd, hv⟩ := fields_get k j u hj
      obtain ⟨g, off, e, hg, q0, q1⟩ := hcl (j / 2) hd
      cases e
      rw [Addr.add_lit]
      rcases hv with ⟨h2, hv⟩ | ⟨h2, hv⟩
      · have e2 : off + j / 2 * 2 = off + j := by omega
        rw [e2] at q0
        rw [hv hd]
        exact q0
      · have e2 : off + j / 2 * 2 + 1 = off + j := by omega
        rw [e2] at q1
        rw [hv hd]
        exact q1
    · refine h v' w' ?_ q2
      unfold FieldsOwn
      rw [fields_append, List.length_append]
      exact q1
/-- A row's first block, with no field in it. -/
theorem own_empty (w : World) : FieldsOwn (w.alloc (.cells #[] 38)) w.heap.size (.slice (some ⟨w.heap.size, 0, none⟩) 0 0) [] :=
  ⟨rfl, .inr ⟨w.heap.size, 0, #[], rfl, Nat.le_refl _, heap_alloc_new w _, Nat.le_refl _, by decide, rfl, rfl⟩⟩
theorem own_single (w : World) (f : FieldH) : FieldsOwn (w.alloc (.cells #[.string (textQ f.1), .string (textQ f.2)] 38)) w.heap.size (.slice (some ⟨w.heap.size, 0, none⟩) 1 1) [f] :=
  ⟨rfl, .inr ⟨w.heap.size, 1, #[.string (textQ f.1), .string (textQ f.2)], rfl, Nat.le_refl _, heap_alloc_new w _, Nat.le_refl _, by decide, rfl, rfl⟩⟩
end Go.Proofs.YtneihcdeflfahaaDoor
