/-
  A framer with the row of the lines that it told so far; two such and a third framer that share nothing; append of a row to a row, as a law for the walk.
-/
import Derived.Test.YtflmbihdmmfcpaaFReset
import Derived.Laws.AppendOwnNone
namespace Go.Proofs.Ytflmbihdmmfcpaa
open Go.RowKit

theorem wpList_append_rows {P : Program} {w : World} {ops : Array Oper} {rest : List Oper} {o : Oper} {a : Act} {Q : Exit → Act → World → Prop} (hgd : o.guard = none) (s x : Operand) (t : TypeId)
    (ho : o.op = .call { callee := .builtin .append, args := #[s, x], argTypes := #[t, t] })
    (base base2 : Nat) (e : TypeId) (i : TypeInfo) (z : Value) (size bytes : Nat) (ht : P.underlying t = some (.slice e)) (hi : P.info? e = some i) (hz : i.zero = some z)
    (hsize : i.size = size) (hby : i.bytes = bytes) (hzs : z.cells.size = size) (hsz : 0 < size)
    (v : Value) (n : Nat) (xs : List Value) (hs : a.eval s = v) (hown : w.ownsRow base e size v n xs)
    (vx : Value) (m : Nat) (news : List Value) (hx : a.eval x = vx) (hrx : w.ownsRow base2 e size vx m news) (h1 : ∀ u ∈ news, u.oneCell' = true)
    (h63 : n + m ≤ maxLen) (hbytes : (n + m) * bytes ≤ 140737488355328) (hbase : base ≤ w.heap.size)
    (h : ∀ v' w', w'.ownsRow base e size v' (n + m) (xs ++ news) → w.grownBy w' v.ownBlock → (v'.ownBlock = v.ownBlock ∨ v'.ownBlock = some w.heap.size) → wpList P ops Q rest (a.put o.dst v') w') :
    wpList P ops Q (o :: rest) a w := by
  have h2 := hrx.2
  have hl := hrx.1
  rcases h2 with ⟨rfl, rfl⟩ | ⟨g, cap, cur, rfl, _⟩
  · have hn : news = [] := List.eq_nil_of_length_eq_zero (by simpa using hl)
    subst hn
    refine wpList_append_own_none hgd s x t ho base e i size ht hi v n xs hs hown hx ?_
    exact h v w (by rw [Nat.add_zero, List.append_nil]; exact hown) ⟨rfl, rfl, rfl, Nat.le_refl _, fun _ _ _ => rfl⟩ (.inl rfl)
  · exact wpList_append_own_at w hgd s x t ho base e i z size bytes ht hi hz hsize hby hzs hsz v n xs hs hown ⟨g, 0, none⟩ m cap news hx hl (hrx.cells (g := g) rfl) h1 h63 hbytes hbase (fun v' w' q1 q2 _ q4 => h v' w' q1 q2 q4)
theorem cells_one (ls : List (List UInt8)) : ∀ u ∈ linesCells ls, u.oneCell' = true := by
  intro u hu
  unfold linesCells at hu
  obtain ⟨l, _, hl⟩ := List.mem_flatMap.1 hu
  simp only [lineCells, List.mem_cons, List.not_mem_nil, or_false] at hl
  rcases hl with rfl | rfl <;> rfl
theorem lines_cells_app (a b : List (List UInt8)) : linesCells a ++ linesCells b = linesCells (a ++ b) := by simp [linesCells]

/-- A framer that was fed t, and the row of the lines that it told. -/
def GoesF (W : World) (B N : Nat) (v va : Value) (t : List UInt8) : Prop :=
  ∃ ls r, linesQ t = ls ++ [r] ∧ FramerAt W B N v r (t.length : Int) ∧ W.ownsRow B 35 2 va ls.length (linesCells ls)
def mineG (N : Nat) (v va : Value) (b : Nat) : Prop := mineF N v b ∨ va.ownBlock = some b
def ApartS (S T : Nat → Prop) : Prop := ∀ b, S b → ¬ T b
theorem ApartS.symm {S T : Nat → Prop} (h : ApartS S T) : ApartS T S := fun b h1 h2 => h b h2 h1
theorem ApartS.turn {S S' T : Nat → Prop} {w : World} (h : ApartS S T) (hT : ∀ b, T b → b < w.heap.size) (hf : ∀ b, S' b → S b ∨ w.heap.size ≤ b) : ApartS S' T := fun b h1 h2 => by
  rcases hf b h1 with h1 | h1
  · exact h b h1 h2
  · have := hT b h2
    omega
theorem GoesF.blocks {W : World} {B N : Nat} {v va : Value} {t : List UInt8} (h : GoesF W B N v va t) : ∀ b, mineG N v va b → B ≤ b ∧ b < W.heap.size := by
  obtain ⟨ls, r, _, hF, hr⟩ := h
  rintro b (h | h)
  · exact FramerOf.blocks hF b h
  · obtain ⟨h1, cur, h2⟩ := row_block hr h
    exact ⟨h1, (Array.getElem?_eq_some_iff.1 h2).1⟩
theorem GoesF.keep {W W' : World} {B N : Nat} {v va : Value} {t : List UInt8} {S : Nat → Prop} (h : GoesF W B N v va t) (ht : Turned S W W') (hs : ApartS S (mineG N v va)) : GoesF W' B N v va t := by
  obtain ⟨ls, r, h1, hF, hr⟩ := h
  exact ⟨ls, r, h1, FramerOf.keep hF ht (fun b h1 h2 => hs b h2 (.inl h1)), ht.row hr (fun b h1 h2 => hs b h2 (.inr h1))⟩
/-- Fed more, and what came laid to the row. -/
theorem goes_step {w w5 w6 : World} {B N : Nat} {v v' va va' : Value} {t x : List UInt8} {ls l2 : List (List UInt8)} {r r2 : List UInt8} {k2 : Int} (h1 : linesQ t = ls ++ [r]) (h2 : linesQ (r ++ x) = l2 ++ [r2])
    (hF5 : FramerAt w5 B N v' r2 k2) (hk : k2 = ((t ++ x).length : Nat)) (ht : Turned (mineF N v) w w5) (hf : FreshF w v v') (ho5 : w5.ownsRow B 35 2 va ls.length (linesCells ls))
    (ho6 : w6.ownsRow B 35 2 va' (ls.length + l2.length) (linesCells ls ++ linesCells l2)) (hg : w5.grownBy w6 va.ownBlock) (hat : va'.ownBlock = va.ownBlock ∨ va'.ownBlock = some w5.heap.size) :
    GoesF w6 B N v' va' (t ++ x) ∧ Turned (mineG N v va) w w6 ∧ ∀ b, mineG N v' va' b → mineG N v va b ∨ w.heap.size ≤ b := by
  have hno := FramerOf.row_no hF5 ho5 (by decide) (by decide)
  have hT : Turned (fun b => va.ownBlock = some b) w5 w6 := Turned.of_grown hg (fun k e => .inl e)
  subst hk
  refine ⟨⟨ls ++ l2, r2, ?_, FramerOf.keep hF5 hT (fun b hm e => hno b e hm), ?_⟩, ?_, ?_⟩
  · rw [lines_app x t ls r h1, h2, List.append_assoc]
  · rw [List.length_append, ← lines_cells_app]
    exact ho6
  · refine Turned.trans (S := mineG N v va) ?_ hT (fun b e => .inl (.inr e))
    exact ⟨ht.os, ht.tape, ht.output, ht.size, fun k hk hs => ht.block k hk (fun e => hs (.inl e))⟩
  · rintro b (h | h)
    · rcases mine_fresh hf b h with h | h
      · exact .inl (.inl h)
      · exact .inr h
    · rcases hat with e | e
      · exact .inl (.inr (by rw [← e]; exact h))
      · rw [e] at h
        have := ht.size
        simp at h
        exact .inr (by omega)
/-- Two framers that go, and a third one that is new. -/
structure ThreeF (W : World) (B N1 : Nat) (v1 va : Value) (t1 : List UInt8) (N2 : Nat) (v2 vb : Value) (t2 : List UInt8) (N3 : Nat) : Prop where
  one : GoesF W B N1 v1 va t1
  two : GoesF W B N2 v2 vb t2
  new : FramerAt W B N3 (.slice none 0 0) [] 0
  a12 : ApartS (mineG N1 v1 va) (mineG N2 v2 vb)
  a13 : ApartS (mineG N1 v1 va) (mineF N3 (.slice none 0 0))
  a23 : ApartS (mineG N2 v2 vb) (mineF N3 (.slice none 0 0))
section
variable {W W' : World} {B N1 N2 N3 : Nat} {v1 v2 va vb v' va' : Value} {t1 t2 t' : List UInt8}
theorem ThreeF.swap (h : ThreeF W B N1 v1 va t1 N2 v2 vb t2 N3) : ThreeF W B N2 v2 vb t2 N1 v1 va t1 N3 := ⟨h.two, h.one, h.new, h.a12.symm, h.a23, h.a13⟩
theorem ThreeF.step (h : ThreeF W B N1 v1 va t1 N2 v2 vb t2 N3) (g : GoesF W' B N1 v' va' t' ∧ Turned (mineG N1 v1 va) W W' ∧ ∀ b, mineG N1 v' va' b → mineG N1 v1 va b ∨ W.heap.size ≤ b) : ThreeF W' B N1 v' va' t' N2 v2 vb t2 N3 := by
  obtain ⟨g1, g2, g3⟩ := g
  exact ⟨g1, h.two.keep g2 h.a12, FramerOf.keep h.new g2 (fun b h1 h2 => h.a13 b h2 h1), h.a12.turn (fun b hb => (h.two.blocks b hb).2) g3, h.a13.turn (fun b hb => (FramerOf.blocks h.new b hb).2) g3, h.a23⟩
theorem ThreeF.below (h : ThreeF W B N1 v1 va t1 N2 v2 vb t2 N3) (hb : Below W.heap.size W W') : ThreeF W' B N1 v1 va t1 N2 v2 vb t2 N3 := by
  have ht : Turned (fun _ => False) W W' := Turned.of_below hb (Nat.le_refl _)
  exact ⟨h.one.keep ht (fun _ h => h.elim), h.two.keep ht (fun _ h => h.elim), framer_below h.new hb, h.a12, h.a13, h.a23⟩
end
end Go.Proofs.Ytflmbihdmmfcpaa
