/-
  Rows of texts and of addresses: somebody's own, to which one is appended; rows that lie wherever.
-/
import Derived.Test.YtemkikpdmihmpaaDoorAdG
import Derived.Laws.AppendOwn
import Derived.Laws.OwnMore
namespace Go.Proofs.YtemkikpdmihmpaaDoor
open Go.RowKit

theorem ownsRow_belowA {w w' : World} {B e size n : Nat} {v : Value} {xs : List Value} (h : w.ownsRow B e size v n xs) (hb : Below w.heap.size w w') : w'.ownsRow B e size v n xs :=
  ⟨h.1, h.2.imp id fun ⟨g, cap, cur, h1, h2, h3, h4⟩ => ⟨g, cap, cur, h1, h2, (hb.block g (heap_lt h3)).trans h3, h4⟩⟩
theorem infoStrA : (Tryd.prog.info? 9).map (fun i => (i.zero, i.size, i.bytes)) = some (some (.string ⟨#[]⟩), 1, 16) := by kernel_rfl
theorem infoAddr : (Tryd.prog.info? 37).map (fun i => (i.zero, i.size, i.bytes)) = some (some (.agg #[.string ⟨#[]⟩, .string ⟨#[]⟩, .string ⟨#[]⟩]), 3, 48) := by kernel_rfl
theorem infoRAddr : (Tryd.prog.info? 40).map (fun i => (i.zero, i.size, i.bytes)) = some (some (.agg #[.string ⟨#[]⟩, .string ⟨#[]⟩, .string ⟨#[]⟩]), 3, 48) := by kernel_rfl
/-- Texts, as a row of somebody's own. -/
def textCells (l : List TextA) : List Value := l.map fun x => .string (textQ x)
abbrev TextsOwnA (w : World) (B : Nat) (v : Value) (l : List TextA) : Prop := w.ownsRow B 9 1 v l.length (textCells l)
theorem append_textA {w : World} {ops : Array Oper} {rest : List Oper} {o : Oper} {a : Act} {Q : Exit → Act → World → Prop} (hgd : o.guard = none) (s x : Operand)
    (ho : o.op = .call { callee := .builtin .append, args := #[s, x], argTypes := #[102, 102] }) (B : Nat) (v : Value) (l : List TextA) (p : TextA) (hs : a.eval s = v) (hown : TextsOwnA w B v l) (hB : B ≤ w.heap.size) (hl : l.length ≤ 10000000)
    (b c : Nat) (hx : a.eval x = .slice (some ⟨b, 0, none⟩) 1 c) (h0 : w.cell? ⟨b, 0, none⟩ = some (.string (textQ p)))
    (h : ∀ v' w', TextsOwnA w' B v' (l ++ [p]) → w.grownBy w' v.ownBlock → wpList Tryd.prog ops Q rest (a.put o.dst v') w') : wpList Tryd.prog ops Q (o :: rest) a w := by
  obtain ⟨i0, hi, hz0, hz1, hz2⟩ := info_parts infoStrA
  refine wpList_append_own w hgd s x 102 ho B 9 i0 (.string ⟨#[]⟩) 1 16 Tryd.underlying102 hi hz0 hz1 hz2 rfl (by decide) v l.length _ hs hown ⟨b, 0, none⟩ 1 c [.string (textQ p)] hx rfl (fun j u hj => ?_) (fun u hu => ?_) (by unfold maxLen; omega) (by omega) hB (fun v' w' q1 q2 _ => ?_)
  · rw [Addr.add_lit, Nat.zero_add]
    match j, hj with
    | 0, hj => cases hj; exact h0
    | j + 1, hj => cases hj
  · rw [List.mem_singleton.1 hu]
    rfl
  · refine h v' w' ?_ q2
    unfold TextsOwnA textCells
    rw [List.length_append, List.map_append]
    exact q1
/-- Addresses, as a row of somebody's own; t: the type of the row's places. -/
def addrCells (a : AddrA) : List Value := [.string (textQ a.1), .string (textQ a.2.1), .string (textQ a.2.2)]
def addrsCells (l : List AddrA) : List Value := l.flatMap addrCells
theorem addrs_len (l : List AddrA) : (addrsCells l).length = l.length * 3 := by
  induction l with
  | nil => rfl
  | cons a l ih =>
    show (addrCells a ++ addrsCells l).length = _
    rw [List.length_append, ih, List.length_cons]
    simp [addrCells]
    omega
theorem addrs_at : ∀ (l : List AddrA) (i : Nat) (h : i < l.length), (addrsCells l)[i * 3]? = some (.string (textQ l[i].1)) ∧ (addrsCells l)[i * 3 + 1]? = some (.string (textQ l[i].2.1)) ∧ (addrsCells l)[i * 3 + 2]? = some (.string (textQ l[i].2.2))
  | a :: l, 0, _ => ⟨rfl, rfl, rfl⟩
  | a :: l, i + 1, h => by
    obtain ⟨h1, h2, h3⟩ := addrs_at l i (by simpa using h)
    have e : ∀ k, (addrsCells (a :: l))[(i + 1) * 3 + k]? = (addrsCells l)[i * 3 + k]? := fun k => by
      show (addrCells a ++ addrsCells l)[(i + 1) * 3 + k]? = _
      rw [List.getElem?_append_right (by simp [addrCells]; omega)]
      congr 1
      simp [addrCells]
      omega
    exact ⟨(e 0).trans h1, (e 1).trans h2, (e 2).trans h3⟩
abbrev AddrsOwn (t : TypeId) (w : World) (B : Nat) (v : Value) (l : List AddrA) : Prop := w.ownsRow B t 3 v l.length (addrsCells l)
theorem append_addrA {w : World} {ops : Array Oper} {rest : List Oper} {o : Oper} {a : Act} {Q : Exit → Act → World → Prop} (t ts : TypeId) (hti : (Tryd.prog.info? t).map (fun i => (i.zero, i.size, i.bytes)) = some (some (.agg #[.string ⟨#[]⟩, .string ⟨#[]⟩, .string ⟨#[]⟩]), 3, 48)) (hts : Tryd.prog.underlying ts = some (.slice t)) (hgd : o.guard = none) (s x : Operand)
    (ho : o.op = .call { callee := .builtin .append, args := #[s, x], argTypes := #[ts, ts] }) (B : Nat) (v : Value) (l : List AddrA) (p : AddrA) (hs : a.eval s = v) (hown : AddrsOwn t w B v l) (hB : B ≤ w.heap.size) (hl : l.length ≤ 1000000)
    (b c : Nat) (hx : a.eval x = .slice (some ⟨b, 0, none⟩) 1 c) (h0 : w.cell? ⟨b, 0, none⟩ = some (.string (textQ p.1))) (h1 : w.cell? ⟨b, 1, none⟩ = some (.string (textQ p.2.1))) (h2 : w.cell? ⟨b, 2, none⟩ = some (.string (textQ p.2.2)))
    (h : ∀ v' w', AddrsOwn t w' B v' (l ++ [p]) → w.grownBy w' v.ownBlock → wpList Tryd.prog ops Q rest (a.put o.dst v') w') : wpList Tryd.prog ops Q (o :: rest) a w := by
  obtain ⟨i0, hi, hz0, hz1, hz2⟩ := info_parts hti
  refine wpList_append_own w hgd s x ts ho B t i0 (.agg #[.string ⟨#[]⟩, .string ⟨#[]⟩, .string ⟨#[]⟩]) 3 48 hts hi hz0 hz1 hz2 rfl (by decide) v l.length _ hs hown ⟨b, 0, none⟩ 1 c (addrCells p) hx rfl (fun j u hj => ?_) (fun u hu => ?_) (by unfold maxLen; omega) (by omega) hB (fun v' w' q1 q2 _ => ?_)
  · rw [Addr.add_lit, Nat.zero_add]
    match j, hj with
    | 0, hj => cases hj; exact h0
    | 1, hj => cases hj; exact h1
    | 2, hj => cases hj; exact h2
    | j + 3, hj => cases hj
  · simp only [addrCells, List.mem_cons, List.not_mem_nil, or_false] at hu
    rcases hu with rfl | rfl | rfl <;> rfl
  · refine h v' w' ?_ q2
    unfold AddrsOwn
    rw [List.length_append, show addrsCells (l ++ [p]) = addrsCells l ++ addrCells p by simp [addrsCells]]
    exact q1
/-- Addresses that lie in memory, wherever. -/
def AddrsAt (w : World) (B : Nat) (v : Value) (l : List AddrA) : Prop :=
  ∃ ao cap, v = .slice ao l.length cap ∧ l.length ≤ cap ∧ cap ≤ maxLen ∧ ∀ i (hi : i < l.length), ∃ g off, ao = some ⟨g, off, none⟩ ∧ g < B ∧
    w.cell? ⟨g, off + i * 3, none⟩ = some (.string (textQ l[i].1)) ∧ w.cell? ⟨g, off + i * 3 + 1, none⟩ = some (.string (textQ l[i].2.1)) ∧ w.cell? ⟨g, off + i * 3 + 2, none⟩ = some (.string (textQ l[i].2.2))
theorem AddrsAt.below {w w' : World} {B B' : Nat} {v : Value} {l : List AddrA} (h : AddrsAt w B v l) (hb : Below B' w w') (hB : B ≤ B') : AddrsAt w' B v l := by
  obtain ⟨ao, cap, h1, h2, h3, h4⟩ := h
  refine ⟨ao, cap, h1, h2, h3, fun i hi => ?_⟩
  obtain ⟨g, off, q1, q2, q3, q4, q5⟩ := h4 i hi
  have hc : ∀ j, w'.cell? ⟨g, j, none⟩ = w.cell? ⟨g, j, none⟩ := fun j => hb.cell (p := ⟨g, j, none⟩) (by show g < B'; omega)
  exact ⟨g, off, q1, q2, (hc _).trans q3, (hc _).trans q4, (hc _).trans q5⟩
theorem AddrsAt.up {w : World} {B B' : Nat} {v : Value} {l : List AddrA} (h : AddrsAt w B v l) (hB : B ≤ B') : AddrsAt w B' v l := by
  obtain ⟨ao, cap, h1, h2, h3, h4⟩ := h
  refine ⟨ao, cap, h1, h2, h3, fun i hi => ?_⟩
  obtain ⟨g, off, q1, q2, q3⟩ := h4 i hi
  exact ⟨g, off, q1, by omega, q3⟩
theorem AddrsOwn.at {t : TypeId} {w : World} {B : Nat} {v : Value} {l : List AddrA} (h : AddrsOwn t w B v l) : AddrsAt w w.heap.size v l := by
  obtain ⟨h1, h2⟩ := h
  rcases h2 with ⟨rfl, h0⟩ | ⟨g, cap, cur, rfl, hg, hb, hc, hm, hs, ht⟩
  · have hl : l = [] := List.eq_nil_of_length_eq_zero h0
    subst hl
    exact ⟨none, 0, rfl, Nat.le_refl _, by simp, fun i hi => absurd hi (by simp)⟩
  · refine ⟨_, cap, rfl, hc, hm, fun i hi => ⟨g, 0, rfl, heap_lt hb, ?_⟩⟩
    obtain ⟨c0, c1, c2⟩ := addrs_at l i hi
    have hcell : ∀ j u, (addrsCells l)[j]? = some u → j < l.length * 3 → w.cell? ⟨g, j, none⟩ = some u := fun j u hj hlt => by
      rw [Lib.cell_of_heap hb j]
      rw [← ht, List.getElem?_take_of_lt hlt] at hj
      rw [← hj]
      simp
    have q0 := hcell _ _ c0 (by omega)
    have q1 := hcell _ _ c1 (by omega)
    have q2 := hcell _ _ c2 (by omega)
    rw [show 0 + i * 3 = i * 3 by omega]
    exact ⟨q0, q1, q2⟩
end Go.Proofs.YtemkikpdmihmpaaDoor
