/-
  Texts of this proof, put together: HdE, HdF.
-/
import Derived.Test.YtjikghndoklajaaGreatDoorZ28
namespace Go.Proofs.YtjikghndoklajaaGreatDoor
open Go.RowKit Go.Shelf

theorem store_fnH {P : Program} {w : World} {a : Addr} {m : Mode} (fn : Fn) (first captured : Array Value) : (store a (.func fn first captured) m).run P w = stored P w a (.func fn first captured) m := run_store P w a _ m rfl
attribute [local go_sem] Oper.semAt_some store_fnH

structure LfP (B b C D E : Nat) (acc : TextH) (k : Nat) (fr : Bool) (W : World) : Prop where
  bd : Lib.BuilderAt 113 5 B b (.pointer (some ⟨b, 0, none⟩)) (Lib.byteCells acc) W
  xc : Boxed W C 111 (.pointer (some ⟨b, 0, none⟩))
  xd : Boxed W D 3 (.int .i64 k)
  xe : Boxed W E 4 (.bool fr)
  hD : B ≤ D
  hE : B ≤ E
  hB : B ≤ W.heap.size
section
variable {B b C D E k : Nat} {acc : TextH} {fr : Bool} {W W' : World}
theorem LfP.own {row : Option Nat} (h : LfP B b C D E acc k fr W) (hg : W.grownBy W' row) (hr : ∀ r, row = some r → ∃ o : Obj, W.heap[r]? = some o ∧ o.isCells = false) : LfP B b C D E acc k fr W' :=
  ⟨builder_grown h.bd hg hr, boxed_ownQ h.xc hg hr, boxed_ownQ h.xd hg hr, boxed_ownQ h.xe hg hr, h.hD, h.hE, Nat.le_trans h.hB hg.size⟩
theorem LfP.store {q : Nat} {x : Value} (h : LfP B b C D E acc k fr W) (hx : Boxed W q 9 x) (v : Value) : LfP B b C D E acc k fr (W.setCell ⟨q, 0, none⟩ v) :=
  ⟨builder_box (t := 9) (by decide) v h.bd ⟨x, hx⟩, h.xc.other (box_neH h.xc hx (by decide)) v, h.xd.other (box_neH h.xd hx (by decide)) v, h.xe.other (box_neH h.xe hx (by decide)) v, h.hD, h.hE, by simpa [World.setCell] using h.hB⟩
theorem LfP.keeps (h : LfP B b C D E acc k fr W) (hk : KeptH E b D W W') : KeepsOthers W W' := by
  have hxd : W.heap[D]? = some (.cells #[_] 3 (0, 0)) := h.xd
  have hxe : W.heap[E]? = some (.cells #[_] 4 (0, 0)) := h.xe
  obtain ⟨_, v, hbc, _⟩ := h.bd
  refine ⟨hk.1, fun q o hq ho => hk.2 q o hq (fun e => ?_) (fun e => ?_) (fun e => ?_) (fun c fz e => by subst e; cases ho)⟩
  · rw [e, hxe] at hq; cases hq; cases ho
  · rw [e, hbc] at hq; cases hq; cases ho
  · rw [e, hxd] at hq; cases hq; cases ho
theorem LfP.keep {q : Nat} {t : TypeId} {v : Value} (h : LfP B b C D E acc k fr W) (hk : KeptH E b D W W') (hq : Boxed W q t v) (t1 : t ≠ 5) (t2 : t ≠ 4) (t3 : t ≠ 3) : Boxed W' q t v :=
  hk.box t1 (box_neH hq h.xe t2) (builder_ne h.bd hq) (box_neH hq h.xd t3) hq
theorem LfP.keepInt {q : Nat} {v : Value} (h : LfP B b C D E acc k fr W) (hk : KeptH E b D W W') (hq : Boxed W q 3 v) (hne : q ≠ D) : Boxed W' q 3 v :=
  hk.box (by decide) (box_neH hq h.xe (by decide)) (builder_ne h.bd hq) hne hq
theorem LfP.keepBool {q : Nat} {v : Value} (h : LfP B b C D E acc k fr W) (hk : KeptH E b D W W') (hq : Boxed W q 4 v) (hne : q ≠ E) : Boxed W' q 4 v :=
  hk.box (by decide) hne (builder_ne h.bd hq) (box_neH hq h.xd (by decide)) hq
end
def LfI (B b C D E F R : Nat) (a0 : TextH) (k0 : Nat) (w : World) (pre : List TextH) (W : World) : Prop :=
  (∃ acc k fr, soFarH a0 k0 pre = (acc, k, fr, true) ∧ LfP B b C D E acc k fr W) ∧ Boxed W F 36 (.func (.func 177) #[] #[.pointer (some ⟨E, 0, none⟩), .pointer (some ⟨D, 0, none⟩), .pointer (some ⟨C, 0, none⟩)]) ∧
    (∃ x, Boxed W (F + 1) 9 x) ∧ Boxed W (F + 1 + 1) 9 (.string ⟨#[32]⟩) ∧ Boxed W (F + 1 + 1 + 1) 3 (.int .i64 0) ∧ Boxed W R 4 (.bool false) ∧ Below B w W
def LfX (B R : Nat) (a0 : TextH) (k0 : Nat) (w : World) (c : Code) (pre : List TextH) (W : World) : Prop :=
  c = .ret ∧ (soFarH a0 k0 pre).2.2.2 = false ∧ Boxed W R 4 (.bool false) ∧ Below B w W
def LfK (F : Nat) (A B : World) : Prop := ∀ b, F < b → b < F + 4 → B.heap[b]? = A.heap[b]?
theorem LfI.own {B b C D E F R M : Nat} {a0 : TextH} {k0 : Nat} {w : World} (hB : B ≤ w.heap.size) (hM : B ≤ M) : OwnFrom M (LfI B b C D E F R a0 k0 w) := by
  rintro pre W W' row ⟨⟨acc, k, e, h1, h2⟩, h3, ⟨x, h4⟩, h5, h6, h7, h9⟩ hg hr
  have hr' : ∀ r, row = some r → ∃ o : Obj, W.heap[r]? = some o ∧ o.isCells = false := fun r e => (hr r e).2
  exact ⟨⟨acc, k, e, h1, h2.own hg hr'⟩, boxed_ownQ h3 hg hr', ⟨x, boxed_ownQ h4 hg hr'⟩, boxed_ownQ h5 hg hr', boxed_ownQ h6 hg hr', boxed_ownQ h7 hg hr', h9.grown hg (by have := h9.size; omega) fun k e => by have := (hr k e).1; omega⟩
theorem LfX.own {B R M : Nat} {a0 : TextH} {k0 : Nat} {w : World} (hB : B ≤ w.heap.size) (hM : B ≤ M) (c : Code) : OwnFrom M (LfX B R a0 k0 w c) := by
  rintro pre W W' row ⟨h1, h2, h3, h5⟩ hg hr
  have hr' : ∀ r, row = some r → ∃ o : Obj, W.heap[r]? = some o ∧ o.isCells = false := fun r e => (hr r e).2
  exact ⟨h1, h2, boxed_ownQ h3 hg hr', h5.grown hg (by have := h5.size; omega) fun k e => by have := (hr k e).1; omega⟩
theorem LfI.store {B b C D E F R : Nat} {a0 : TextH} {k0 : Nat} {w : World} (hF : B + 2 ≤ F) (hR : R < F) (pre : List TextH) (A : World) (v : Value) : LfI B b C D E F R a0 k0 w pre A → LfI B b C D E F R a0 k0 w pre (A.setCell ⟨F + 1, 0, none⟩ v) := by
  rintro ⟨⟨acc, k, e, h1, h2⟩, h3, ⟨x, h4⟩, h5, h6, h7, h9⟩
  exact ⟨⟨acc, k, e, h1, h2.store h4 v⟩, h3.other (by omega) v, ⟨v, h4.set v⟩, h5.other (by omega) v, h6.other (by omega) v, h7.other (by omega) v, h9.setCell (p := ⟨F + 1, 0, none⟩) (by simp; omega) v⟩

set_option maxRecDepth 100000 in
set_option maxHeartbeats 4000000 in
theorem hlayf_any (B b : Nat) (acc : TextH) (f : FieldH) (w : World) (h : Lib.IsBuilder 113 5 B b (Lib.byteCells acc) w) (hBw : B ≤ w.heap.size) (hacc : acc.length ≤ 100000000) (hn : f.1.length ≤ 900) (hb : f.2.length ≤ 1000000) :
    Calls Tryz.prog 125 #[.pointer (some ⟨b, 0, none⟩), fieldV f] w fun e w' => e = .returned (.bool (!(longH (linesH f)))) ∧ (longH (linesH f) = false → Lib.BuilderAt 113 5 B b (.pointer (some ⟨b, 0, none⟩)) (Lib.byteCells (acc ++ endH (linesH f))) w') ∧ Below B w w' := by
  obtain ⟨X, hX⟩ : ∃ X, textQ f.1 = X := ⟨_, rfl⟩
  obtain ⟨Y, hY⟩ : ∃ Y, textQ f.2 = Y := ⟨_, rfl⟩
  have hXd : X.data.toList = f.1 := by rw [← hX]; rfl
  have hYd : Y.data.toList = f.2 := by rw [← hY]; rfl
  have hXs : X.size = f.1.length := by rw [← hX]; rfl
  have hYs : Y.size = f.2.length := by rw [← hY]; rfl
  unfold fieldV
  rw [hX, hY]
  obtain ⟨T, hT⟩ : ∃ T, X ++ (⟨#[58]⟩ : ByteArray) = T := ⟨_, rfl⟩
  have hTd : T.data.toList = f.1 ++ [58] := by rw [← hT, ← hXd, ByteArray.data_append, Array.toList_append]
  have hTs : T.size = f.1.length + 1 := by
    have : T.size = T.data.toList.length := rfl
    rw [this, hTd]
    simp
  have hcat : ¬ 9223372036854775807 < X.size + 1 := by omega
  have hcat2 : ¬ 9223372036854775807 < X.size + (⟨#[58]⟩ : ByteArray).size := by show ¬ 9223372036854775807 < X.size + 1; omega
  obtain ⟨w0, hw0⟩ : ∃ w0, (w.alloc (.cells #[.string X, .string Y] 38)).alloc (.cells #[.bool false] 4) = w0 := ⟨_, rfl⟩
  have hz0 : w0.heap.size = w.heap.size + 2 := by rw [← hw0]; simp
  have b0 : Below w.heap.size w w0 := by
    rw [← hw0]
    exact ((Below.refl _ _).alloc (Nat.le_refl _) _).alloc (by simp) _
  have r1 : Boxed w0 (w.heap.size + 1) 4 (.bool false) := by
    rw [← hw0]
    have := Boxed.new (w.alloc (.cells #[.string X, .string Y] 38)) 4 (.bool false)
    rw [World.size_alloc] at this
    exact this
  have q0 : Below (w.alloc (.cells #[.string X, .string Y] 38)).heap.size (w.alloc (.cells #[.string X, .string Y] 38)) w0 := by
    rw [← hw0]
    exact (Below.refl _ _).alloc (Nat.le_refl _) _
  have y0 : w0.cell? ⟨w.heap.size, 0, none⟩ = some (.string X) := (q0.cell (p := ⟨w.heap.size, 0, none⟩) (by simp)).trans (by go_simp)
  have y1 : w0.cell? ⟨w.heap.size, 1, none⟩ = some (.string Y) := (q0.cell (p := ⟨w.heap.size, 1, none⟩) (by simp)).trans (by go_simp)
  clear q0
  have hlay := hlayer_any B b acc T w0 (isbuilder_below h b0) (by omega) (by omega)
  by_cases hf : f.2 = []
  · have hem : Y.toList.isEmpty = true := by rw [Lib.toList_data, hYd, hf]; rfl
    have hlong := long_none f hn hf
    have htext := lay_none f hf acc
    rw [hlong]
    refine (callsIn_wide (n := 8)).1 ?_
    refine callsIn_of_wp_marks Tryz.func125 rfl trivial ?_ rfl
    simp only [Tryz.ntmps125, List.size_toArray, List.length_cons, List.length_nil, Nat.reduceAdd, Nat.reduceSub, Array.replicate_succ, Array.replicate_zero, List.push_toArray, List.append_toArray, List.nil_append, List.cons_append]
    gi_wp2_with fail
    refine ⟨trivial, ?_⟩
    refine (callsIn_wide.2 hlay).mono ?_
    rintro e w1 ⟨C, D, E, rfl, hbd1, xc, xd, xe, ⟨zC, zD, zE⟩, l1, k1⟩
    have hblt : b < w.heap.size := by
      rcases h with h | h
      · exact h.lt
      · exact h.lt
    have hf0 : w0.heap[w.heap.size]? = some (.cells #[.string X, .string Y] 38 (0, 0)) := by
      rw [← hw0]
      exact (Below.heap_alloc _ _ _ (by simp)).trans (heap_alloc_new w _)
    have hf1 := k1.2 _ _ hf0 (by omega) (by omega) (by omega) (fun x fz e => by cases e)
    have r2 := k1.box (by decide) (by omega) (by omega) (by omega) r1
    have y2 : w1.cell? ⟨w.heap.size, 1, none⟩ = some (.string Y) := Lib.cell_of_heap hf1 1
    have z1 := k1.1
    have b1 := (b0.mono hBw).trans l1
    have p1 : Below w1.heap.size w1 (w1.alloc (.cells #[(.func (.func 177) #[] #[.pointer (some ⟨E, 0, none⟩), .pointer (some ⟨D, 0, none⟩), .pointer (some ⟨C, 0, none⟩)])] 36)) := (Below.refl _ _).alloc (Nat.le_refl _) _
    have y3 : (w1.alloc (.cells #[(.func (.func 177) #[] #[.pointer (some ⟨E, 0, none⟩), .pointer (some ⟨D, 0, none⟩), .pointer (some ⟨C, 0, none⟩)])] 36)).cell? ⟨w.heap.size, 1, none⟩ = some (.string Y) := (p1.cell (p := ⟨w.heap.size, 1, none⟩) (by show w.heap.size < w1.heap.size; omega)).trans y2
    rw [hTd] at hbd1
    have hw2 := bwrite_k B b _ ⟨#[13, 10]⟩ _ (builder_below hbd1 p1) (by rw [Lib.byteCells_length]; simp; show _ + 2 ≤ _; omega) (by have := b1.size; have := p1.size; omega)
    rw [show Lib.byteCells (acc ++ (f.1 ++ [58])) ++ Lib.strCells ⟨#[13, 10]⟩ = Lib.byteCells (acc ++ (f.1 ++ [58]) ++ [13, 10]) by rw [Lib.byteCells_append (acc ++ (f.1 ++ [58]))]; rfl, htext] at hw2
    have r3 := boxed_below r2 p1
    have B3 := Lib.hid (b1.trans (p1.mono (by have := b1.size; omega)))
    clear hw0 hlay hf0 hf1 htext hlong hf hX hY hXd hYd hT hTd xc xd xe l1 k1 b0 r1 y0 y1 h hbd1 hcat hcat2
    gi_wp2_with fail
    refine ⟨trivial, ?_⟩
    refine (callsIn_wide.2 hw2).mono ?_
    rintro e w3 ⟨rfl, hbd3, hbe3, ho3, hz3⟩
    have r4 := kept_box ho3 (by decide) (by omega) r3
    have d4 := r4.cell
    have f4 := r4.frozen
    have R4 := Lib.hid r4
    have D3 := Lib.hid hbd3
    have E3 := Lib.hid (B3.out.trans hbe3)
    clear hw2 r3 r4 hbd3 ho3
    gi_wp2
    have k4 := (R4.out.set (.bool true)).cell
    refine ⟨.bool true, by simp [results, Tryz.f125, go_sem, k4], rfl, fun _ => builder_box (t := 4) (by decide) _ D3.out ⟨_, R4.out⟩, E3.out.setCell (p := ⟨w.heap.size + 1, 0, none⟩) (by show B ≤ w.heap.size + 1; omega) _⟩
  · have hem : Y.toList.isEmpty = false := by
      rw [Lib.toList_data, hYd, List.isEmpty_eq_false_iff]
      exact hf
    obtain ⟨hlay1, hlay2⟩ := lay_text f hn hf acc
    obtain ⟨a0, ha0⟩ : ∃ a0, acc ++ (f.1 ++ [58]) = a0 := ⟨_, rfl⟩
    obtain ⟨k0, hk0⟩ : ∃ k0, f.1.length + 1 = k0 := ⟨_, rfl⟩
    rw [ha0, hk0] at hlay1 hlay2
    obtain ⟨L, hL⟩ : ∃ L, longH (linesH f) = L := ⟨_, rfl⟩
    rw [hL] at hlay1 ⊢
    have ha0l : a0.length ≤ 100001000 := by rw [← ha0]; simp; omega
    have hk0l : k0 ≤ 901 := by omega
    refine (callsIn_wide (n := 8)).1 ?_
    refine callsIn_of_wp_marks Tryz.func125 rfl trivial ?_ rfl
    simp only [Tryz.ntmps125, List.size_toArray, List.length_cons, List.length_nil, Nat.reduceAdd, Nat.reduceSub, Array.replicate_succ, Array.replicate_zero, List.push_toArray, List.append_toArray, List.nil_append, List.cons_append]
    gi_wp2_with fail
    refine ⟨trivial, ?_⟩
    refine (callsIn_wide.2 hlay).mono ?_
    rintro e w1 ⟨C, D, E, rfl, hbd1, xc, xd, xe, ⟨zC, zD, zE⟩, l1, k1⟩
    have hblt : b < w.heap.size := by
      rcases h with h | h
      · exact h.lt
      · exact h.lt
    have hf0 : w0.heap[w.heap.size]? = some (.cells #[.string X, .string Y] 38 (0, 0)) := by
      rw [← hw0]
      exact (Below.heap_alloc _ _ _ (by simp)).trans (heap_alloc_new w _)
    have hf1 := k1.2 _ _ hf0 (by omega) (by omega) (by omega) (fun x fz e => by cases e)
    have r2 := k1.box (by decide) (by omega) (by omega) (by omega) r1
    have y2 : w1.cell? ⟨w.heap.size, 1, none⟩ = some (.string Y) := Lib.cell_of_heap hf1 1
    have z1 := k1.1
    have b1 := (b0.mono hBw).trans l1
    have p1 : Below w1.heap.size w1 (w1.alloc (.cells #[(.func (.func 177) #[] #[.pointer (some ⟨E, 0, none⟩), .pointer (some ⟨D, 0, none⟩), .pointer (some ⟨C, 0, none⟩)])] 36)) := (Below.refl _ _).alloc (Nat.le_refl _) _
    have y3 : (w1.alloc (.cells #[(.func (.func 177) #[] #[.pointer (some ⟨E, 0, none⟩), .pointer (some ⟨D, 0, none⟩), .pointer (some ⟨C, 0, none⟩)])] 36)).cell? ⟨w.heap.size, 1, none⟩ = some (.string Y) := (p1.cell (p := ⟨w.heap.size, 1, none⟩) (by show w.heap.size < w1.heap.size; omega)).trans y2
    rw [hTd] at hbd1
    rw [ha0] at hbd1
    rw [hTs, hk0] at xd
    have hz1' : w1.heap.size ≤ w1.heap.size := Nat.le_refl _
    have hbd2 := builder_below hbd1 p1
    have xc2 := boxed_below xc p1
    have xd2 := boxed_below xd p1
    have xe2 := boxed_below xe p1
    have r3 := boxed_below r2 p1
    have xf2 := Boxed.new w1 36 (.func (.func 177) #[] #[.pointer (some ⟨E, 0, none⟩), .pointer (some ⟨D, 0, none⟩), .pointer (some ⟨C, 0, none⟩)])
    have hDlt : D < w1.heap.size := xd.lt
    have hClt : C < w1.heap.size := xc.lt
    have hElt : E < w1.heap.size := xe.lt
    have B3 := b1.trans (p1.mono (by have := b1.size; omega))
    have Hlay1 := Lib.hid hlay1
    have Hlay2 := Lib.hid hlay2
    clear hw0 hlay hf0 hf1 hf hX hY hXd hT hTd l1 k1 b0 r1 y0 y1 h hbd1 hcat hcat2 xc xd xe r2 hlay1 hlay2 ha0 hL hz1'
    gi_wp2_with fail
    refine ⟨trivial, ?_⟩
    refine (callsIn_wide.2 (splitSeq_anyQ Y ⟨#[32]⟩ _)).mono ?_
    rintro e w2 ⟨rfl, hw2⟩
    obtain ⟨F, hF⟩ : ∃ F, w1.heap.size = F := ⟨_, rfl⟩
    obtain ⟨w3, hw3⟩ : ∃ w3, w1.alloc (.cells #[(.func (.func 177) #[] #[.pointer (some ⟨E, 0, none⟩), .pointer (some ⟨D, 0, none⟩), .pointer (some ⟨C, 0, none⟩)])] 36) = w3 := ⟨_, rfl⟩
    have hz3 : w3.heap.size = F + 1 := by rw [← hw3, ← hF]; simp
    rw [hw3] at hw2 hbd2 xc2 xd2 xe2 r3 xf2 B3 y3 p1
    rw [hF] at xf2 hDlt hClt hElt
    have hz2 : w2.heap.size = F + 4 := by rw [hw2]; simp; omega
    have l2 : Below w3.heap.size w3 w2 := by
      rw [hw2]
      exact (((Below.refl _ _).alloc (Nat.le_refl _) _).alloc (by simp) _).alloc (by simp; omega) _
    have x1 : Boxed w2 (F + 1) 9 (.string Y) := by
      rw [hw2, ← hz3]
      exact ((Boxed.new _ _ _).alloc _).alloc _
    have x2 : Boxed w2 (F + 1 + 1) 9 (.string ⟨#[32]⟩) := by
      rw [hw2, ← hz3]
      have := Boxed.new (w3.alloc (.cells #[.string Y] 9)) 9 (.string ⟨#[32]⟩)
      rw [World.size_alloc] at this
      exact this.alloc _
    have x3 : Boxed w2 (F + 1 + 1 + 1) 3 (.int .i64 0) := by
      rw [hw2, ← hz3]
      have := Boxed.new ((w3.alloc (.cells #[.string Y] 9)).alloc (.cells #[.string ⟨#[32]⟩] 9)) 3 (.int .i64 0)
      rw [World.size_alloc, World.size_alloc] at this
      exact this
    have hRF : w.heap.size + 1 < F := by omega
    have hRE : w.heap.size + 1 < E := by omega
    have hBF : B + 2 ≤ F := by omega
    have HI : Hid (LfI B b C D E F (w.heap.size + 1) a0 k0 w [] w2) := Lib.hid
      ⟨⟨a0, k0, true, rfl, builder_below hbd2 l2, boxed_below xc2 l2, boxed_below xd2 l2, boxed_below xe2 l2, by omega, by omega, by omega⟩, boxed_below xf2 l2, ⟨_, x1⟩, x2, x3, boxed_below r3 l2, B3.trans (l2.mono (by have := B3.size; omega))⟩
    have hbs : F + 1 < w2.heap.size := by omega
    clear hw2 hw3 hbd2 xc2 xd2 xe2 r3 xf2 B3 y3 p1 l2 y2 b1
    gi_wp2
    clear hF
    refine range_pre (n := 8) (by omega) (gf := 170) (lb := #[.pointer (some ⟨F + 1 + 1, 0, none⟩), .pointer (some ⟨F + 1, 0, none⟩), .pointer (some ⟨F + 1 + 1 + 1, 0, none⟩)]) rfl (enters_of Tryz.func170 (by kernel_rfl) rfl)
      (encs := fun x : List UInt8 => #[.string ⟨x.toArray⟩]) (R := fun pre x => ∃ rest, splitB 32 Y.data.toList = pre ++ x :: rest) (K := LfK F) (S := fun ys => ys = splitB 32 Y.data.toList) (Sp := fun pre => ∃ rest, splitB 32 Y.data.toList = pre ++ rest) (bs := F + 1) hbs ?seq
      (fun h k b h1 h2 => (k b h1 h2).trans (h b h1 h2)) (fun W l o' hl b h1 h2 => World.putObj_heap_other (by omega)) (fun _ => rfl)
      (LfI B b C D E F (w.heap.size + 1) a0 k0 w) (LfX B (w.heap.size + 1) a0 k0 w) (LfI.own hBw (by omega)) (LfI.store hBF hRF) (LfX.own hBw (by omega)) HI.out
      ?act ?assign ?body ?done ?stop
    case assign =>
      intro l x W C hC
      gi_wp2
      exact hC
    case seq =>
      intro l J Jx W hW hJs hY h0
      refine split_one_in 7 (by omega) l (F + 1) (F + 1 + 1) (F + 1 + 1 + 1) (by omega) 32 Y J Jx hJs ?_ W
        ((hW.cell (p := ⟨F + 1, 0, none⟩) (by simp; omega)).trans x1.cell) ((hW.frozen (p := ⟨F + 1, 0, none⟩) (by simp; omega)).trans x1.frozen)
        ((hW.cell (p := ⟨F + 1 + 1, 0, none⟩) (by simp; omega)).trans x2.cell) ((hW.cell (p := ⟨F + 1 + 1 + 1, 0, none⟩) (by simp; omega)).trans x3.cell) (by unfold maxLen; omega) h0
      intro pre x W1 hj hx
      refine YieldAt.mono (hY pre x W1 hj hx) ?_
      rintro e W' (⟨he, hj', hk⟩ | h)
      · exact .inl ⟨he, hj', fun b hb => hk b (by omega) (by omega)⟩
      · exact .inr h
    case body =>
      rintro l pre x W ⟨⟨acc1, k, fr, hrd, hp⟩, h3, ⟨y, h4⟩, h5, h6, h7, h9⟩ ⟨rest, hx⟩
      obtain ⟨q1, q2, q3⟩ := piece_bound hx a0 k0
      rw [hYd] at q1 q2 q3
      have hkk := soFarH_line (show k0 ≤ 998 by omega) (show (soFarH a0 k0 pre).2.2.2 = true by rw [hrd])
      rw [hrd] at q2 q3 hkk
      simp only at q2 q3 hkk
      obtain ⟨X1, hX1⟩ : ∃ X1 : ByteArray, (⟨x.toArray⟩ : ByteArray) = X1 := ⟨_, rfl⟩
      have hX1d : X1.data.toList = x := by rw [← hX1]
      have hX1s : X1.size = x.length := by rw [← hX1]; rfl
      have hsn := soFarH_snoc a0 k0 pre x
      rw [hrd] at hsn
      have c3 := h3.cell
      have hcall := hput_any B b C D E acc1 k fr X1 W hp.bd hp.xc hp.xd hp.xe hp.hD hp.hE (by omega) hp.hB (by omega) (by omega)
      rw [hX1d] at hcall
      rw [hX1]
      cases hst : decide ((lineH fr k x : Int) ≤ 998) with
      | false =>
        have hdead : (soFarH a0 k0 (pre ++ [x])).2.2.2 = false := by
          rw [hsn]
          unfold layR10
          rw [decide_eq_false_iff_not] at hst
          simp
          omega
        have Hdead := Lib.hid hdead
        rw [hst] at hcall
        clear hdead hst hsn hX1 hX1d hrd hx
        gi_wp2_with fail
        refine ⟨trivial, ?_⟩
        refine (CallsIn.inRound l (callsIn_wide.2 hcall)).mono ?_
        rintro e2 W2 ⟨rfl, hb2, he2, hd2, hc2, l2, k2⟩
        have g7 := hp.keepBool k2 h7 (by omega)
        have d7 := g7.cell
        have f7 := g7.frozen
        have HB2 := Lib.hid hb2
        clear hcall hb2
        gi_wp2
        exact ⟨(hp.keeps k2).trans (KeepsOthers.setCell _ _ _), rfl, Hdead.out, g7.set _, (h9.trans l2).setCell (p := ⟨w.heap.size + 1, 0, none⟩) (by show B ≤ w.heap.size + 1; omega) _⟩
      | true =>
        have hgo : soFarH a0 k0 (pre ++ [x]) = (acc1 ++ pieceH fr k x, lineH fr k x, false, true) := by
          rw [hsn]
          unfold layR10
          rw [decide_eq_true_eq] at hst
          simp
          omega
        have Hgo := Lib.hid hgo
        rw [hst] at hcall
        clear hgo hst hsn hX1 hX1d hrd hx
        gi_wp2_with fail
        refine ⟨trivial, ?_⟩
        refine (CallsIn.inRound l (callsIn_wide.2 hcall)).mono ?_
        rintro e3 W2 ⟨rfl, hb2, he2, hd2, hc2, l2, k2⟩
        have g3 := hp.keep k2 h3 (by decide) (by decide) (by decide)
        have g4 := hp.keep k2 h4 (by decide) (by decide) (by decide)
        have g5 := hp.keep k2 h5 (by decide) (by decide) (by decide)
        have g6 := hp.keepInt k2 h6 (by omega)
        have g7 := hp.keepBool k2 h7 (by omega)
        have HB2 := Lib.hid hb2
        clear hcall hb2
        gi_wp2
        refine ⟨hp.keeps k2, fun q q1 q2 => ?_, ⟨_, _, _, Hgo.out, HB2.out, hc2, hd2, he2, hp.hD, hp.hE, by have := l2.size; have := hp.hB; have := k2.1; omega⟩, g3, ⟨y, g4⟩, g5, g6, g7, h9.trans l2⟩
        rcases (by omega : q = F + 1 ∨ q = F + 1 + 1 ∨ q = F + 1 + 1 + 1) with rfl | rfl | rfl
        · exact Eq.trans (show W2.heap[F + 1]? = _ from g4) (show W.heap[F + 1]? = _ from h4).symm
        · exact Eq.trans (show W2.heap[F + 1 + 1]? = _ from g5) (show W.heap[F + 1 + 1]? = _ from h5).symm
        · exact Eq.trans (show W2.heap[F + 1 + 1 + 1]? = _ from g6) (show W.heap[F + 1 + 1 + 1]? = _ from h6).symm
    case done =>
      rintro Dd ys W hD rfl ⟨⟨acc1, k, fr, hrd, hp⟩, h3, h4, h5, h6, h7, h9⟩ hK
      rw [hYd] at hrd
      have q1 := Hlay1.out
      have q2 := Hlay2.out
      rw [hrd] at q1 q2
      simp only at q1 q2
      have hLf : L = false := by cases L with
        | false => rfl
        | true => cases q1
      subst hLf
      have hq := run_lenH (splitB 32 f.2) (a0, k0, true, true)
      have hq2 := wt_split f.2
      have hq3 : (acc1 : TextH).length ≤ a0.length + wtH (splitB 32 f.2) := by
        have e : ((splitB 32 f.2).foldl layR10 (a0, k0, true, true)) = (acc1, k, fr, true) := hrd
        rw [e] at hq
        exact hq
      have hw2 := bwrite_k B b _ ⟨#[13, 10]⟩ _ hp.bd (by rw [Lib.byteCells_length]; show _ + 2 ≤ _; omega) hp.hB
      rw [show Lib.byteCells acc1 ++ Lib.strCells ⟨#[13, 10]⟩ = Lib.byteCells (acc1 ++ [13, 10]) by rw [Lib.byteCells_append acc1]; rfl, q2] at hw2
      have n7 := builder_ne hp.bd h7
      have hDb : Dd ≠ b := by omega
      clear hrd q1 q2 hq hq2 hq3
      gi_wp2_with fail
      refine ⟨trivial, ?_⟩
      refine (callsIn_wide.2 hw2).mono ?_
      rintro e2 W2 ⟨rfl, hbd3, hbe, ho, hz⟩
      have hK' : W2.heap[Dd]? = some (.deferred (some [])) := ho Dd _ hK (by simp; omega) (fun c fz e => by cases e)
      have g7 := kept_box ho (by decide) n7 h7
      have d7 := g7.cell
      have f7 := g7.frozen
      have G := Lib.hid (And.intro g7 (And.intro hK' hbd3))
      clear hw2 g7 hK' hbd3
      gi_wp2
      obtain ⟨g7, hK', hbd3⟩ := G.out
      have hK2 := (KeepsOthers.setCell W2 ⟨w.heap.size + 1, 0, none⟩ (.bool true)).same Dd _ hK' rfl
      have e7 := boxed_ownQ (g7.set (.bool true)) (grownBy_putObj' _ Dd (.deferred none)) (fun r e => by cases e; exact ⟨_, hK2, rfl⟩)
      have k7 := e7.cell
      refine ⟨by simp, .inl ⟨_, _, rfl, run_takeDeferred hK2, ?_⟩⟩
      refine ⟨.bool true, by simp [results, Tryz.f125, go_sem, k7], rfl, ?_, ?_⟩
      · exact builder_grown (builder_box (t := 4) (by decide) _ hbd3 ⟨_, g7⟩) (grownBy_putObj' _ Dd (.deferred none)) (fun r e => by cases e; exact ⟨_, hK2, rfl⟩)
      · exact ((h9.trans hbe).setCell (p := ⟨w.heap.size + 1, 0, none⟩) (by show B ≤ w.heap.size + 1; omega) _).trans (belowK_b (w := w) hBw _ Dd _ _ (by omega) hK2 rfl rfl)
    case stop =>
      rintro Dd c pre W hD ⟨rest, hr⟩ ⟨rfl, hn, h7, h9⟩ hK
      have q1 := Hlay1.out
      rw [← hYd, hr, soFarH_dead a0 k0 pre rest hn] at q1
      have hLt : L = true := by cases L with
        | true => rfl
        | false => cases q1
      subst hLt
      clear q1 hn hr
      gi_wp2
      refine ⟨by simp, .inl ⟨_, _, rfl, run_takeDeferred hK, ?_⟩⟩
      have e7 := boxed_ownQ h7 (grownBy_putObj' W Dd (.deferred none)) (fun r e => by cases e; exact ⟨_, hK, rfl⟩)
      have k7 := e7.cell
      refine ⟨.bool false, by simp [results, Tryz.f125, go_sem, k7], rfl, (fun h => by cases h), ?_⟩
      exact h9.trans (belowK_b (w := w) hBw W Dd _ _ (by omega) hK rfl rfl)
end Go.Proofs.YtjikghndoklajaaGreatDoor
namespace Go.Proofs.YtjikghndoklajaaGreatDoor
open Go.RowKit

theorem end_append (a b : List TextH) : endH (a ++ b) = endH a ++ endH b := by
  unfold endH
  rw [List.flatMap_append]
theorem field_len (f : FieldH) (hn : f.1.length ≤ 900) : (endH (linesH f)).length ≤ f.1.length + 3 * (f.2.length + 1) + 3 := by
  by_cases hb : f.2 = []
  · have := congrArg List.length (lay_none f hb [])
    simp only [List.nil_append] at this
    rw [← this]
    simp
  · have h := congrArg List.length (lay_text f hn hb []).2
    simp only [List.nil_append, List.length_append, List.length_cons, List.length_nil] at h
    have h1 := run_lenH (splitB 32 f.2) ((f.1 ++ [58]), f.1.length + 1, true, true)
    have h2 := wt_split f.2
    have h3 : (soFarH (f.1 ++ [58]) (f.1.length + 1) (splitB 32 f.2)).1.length ≤ (f.1 ++ [58]).length + wtH (splitB 32 f.2) := h1
    simp at h3
    omega
theorem long_append (a b : List TextH) : longH (a ++ b) = (longH a || longH b) := by
  unfold longH
  rw [List.any_append]
theorem head_len : ∀ (l : List FieldH), (∀ f ∈ l, f.1.length ≤ 900 ∧ f.2.length ≤ 100000) → (endH (l.flatMap linesH)).length ≤ 310000 * l.length
  | [], _ => by simp [endH]
  | f :: l, h => by
    have ih := head_len l (fun g hg => h g (List.mem_cons_of_mem _ hg))
    obtain ⟨h1, h2⟩ := h f (List.mem_cons_self ..)
    have h3 := field_len f h1
    rw [List.flatMap_cons, end_append, List.length_append, List.length_cons]
    omega
def printV10 (l : List FieldH) : Value := .tuple #[.string (textQ (printH l).1), .int .i64 (printH l).2]
theorem printV_bad {l : List FieldH} {f : FieldH} (hf : f ∈ l) (h : rightB f = false) : printV10 l = .tuple #[.string ⟨#[]⟩, .int .i64 2] := by
  unfold printV10 printH
  rw [if_pos (by rw [List.all_eq_false]; exact ⟨f, hf, by rw [h]; simp⟩)]
  rfl
theorem printV_many {l : List FieldH} (h : ∀ f ∈ l, rightB f = true) (h64 : 64 < l.length) : printV10 l = .tuple #[.string ⟨#[]⟩, .int .i64 3] := by
  unfold printV10 printH
  rw [if_neg (by rw [List.all_eq_true.2 h]; simp), if_pos h64]
  rfl
theorem printV_long {l : List FieldH} (h : ∀ f ∈ l, rightB f = true) (h64 : l.length ≤ 64) (hl : longH (l.flatMap linesH) = true) : printV10 l = .tuple #[.string ⟨#[]⟩, .int .i64 3] := by
  unfold printV10 printH
  rw [if_neg (by rw [List.all_eq_true.2 h]; simp), if_neg (by omega), if_pos hl]
  rfl
theorem printV_good {l : List FieldH} (h : ∀ f ∈ l, rightB f = true) (h64 : l.length ≤ 64) (hl : longH (l.flatMap linesH) = false) : printV10 l = .tuple #[.string (textQ (headerH l)), .int .i64 0] := by
  unfold printV10 printH
  rw [if_neg (by rw [List.all_eq_true.2 h]; simp), if_neg (by omega), if_neg (by rw [hl]; simp)]

set_option maxRecDepth 100000 in
set_option maxHeartbeats 4000000 in
theorem hprint_any (B : Nat) (v : Value) (l : List FieldH) (w : World) (h : FieldsAt w B v l) (hB : B ≤ w.heap.size) (hsm : SmallF 100000 l) :
    Calls Tryz.prog 88 #[v] w fun e w' => e = .returned (printV10 l) ∧ Below w.heap.size w w' := by
  have Hl := Lib.hid h
  obtain ⟨ao, cap, rfl, hc1, hc2, hat⟩ := h
  have Hat := Lib.hid hat
  have Hsm := Lib.hid hsm
  obtain ⟨n, hnl⟩ : ∃ n, l.length = n := ⟨_, rfl⟩
  have Hn := Lib.hid hnl
  unfold maxLen at hc2
  rw [hnl] at hc1 ⊢
  clear hat hsm hnl Hl
  go_enter Tryz.func88, Tryz.ntmps88
  go_wp2
  go_loopw [5, 11] (fun _ iv wr => ∃ i : Nat, i ≤ n ∧ iv = .int .i64 i ∧ Hid (∀ j (hj : j < l.length), j < i → rightB l[j] = true) ∧ Below w.heap.size w wr) (fun _ iv _ => n - (intOf iv).toNat)
  case atStart => exact ⟨0, by omega, rfl, Lib.hid (fun j _ h => by omega), Below.refl _ _⟩
  case round =>
    obtain ⟨i, hi, rfl, hg, hbr⟩ := hrel
    by_cases hlt : i < n
    · have hil : i < l.length := by rw [Hn.out]; exact hlt
      obtain ⟨g, off, rfl, hgB, z0, z1⟩ := Hat.out i hil
      obtain ⟨s0, s1⟩ := Hsm.out _ (List.getElem_mem hil)
      have hbad : Hid (rightB l[i] = false → printV10 l = .tuple #[.string ⟨#[]⟩, .int .i64 2]) := Lib.hid fun h => printV_bad (List.getElem_mem hil) h
      have hyes : Hid (rightB l[i] = true → ∀ j (hj : j < l.length), j < i + 1 → rightB l[j] = true) := Lib.hid fun h j hj h3 => by
        rcases Nat.lt_or_ge j i with h4 | h4
        · exact hg.out j hj h4
        · obtain rfl : j = i := by omega
          exact h
      have hr := fun W => hright_any l[i] W (by omega)
      obtain ⟨f, hf⟩ : ∃ f, l[i] = f := ⟨_, rfl⟩
      rw [hf] at z0 z1 s0 s1 hbad hyes
      simp only [hf] at hr
      unfold fieldV at hr
      obtain ⟨X, hX⟩ : ∃ X, textQ f.1 = X := ⟨_, rfl⟩
      obtain ⟨Y, hY⟩ : ∃ Y, textQ f.2 = Y := ⟨_, rfl⟩
      rw [hX] at z0
      rw [hY] at z1
      simp only [hX, hY] at hr
      have y0 := (hbr.cell (p := ⟨g, off + i * 2, none⟩) (by show g < w.heap.size; omega)).trans z0
      have y1 := (hbr.cell (p := ⟨g, off + i * 2 + 1, none⟩) (by show g < w.heap.size; omega)).trans z1
      have hgr : g < wr.heap.size := by have := hbr.size; omega
      have hbz := hbr.size
      clear z0 z1 s0 s1 hX hY hg hil hf
      cases hq : rightB f with
      | false =>
        rw [hq] at hr
        have Hr := Lib.hid (hbad.out hq)
        clear hbad hyes hq
        go_wp2_with (go_at_call 52; refine (hr _).mono ?_; rintro e w1 ⟨rfl, hw1⟩)
        have hb1 := (hbr.alloc hbz _).trans (hw1.mono (by simp; omega))
        go_ret2
        exact ⟨by rw [Hr.out]; rfl, hb1⟩
      | true =>
        rw [hq] at hr
        have Hr := Lib.hid (hyes.out hq)
        clear hbad hyes hq
        go_wp2_with (go_at_call 52; refine (hr _).mono ?_; rintro e w1 ⟨rfl, hw1⟩)
        have hb1 := (hbr.alloc hbz _).trans (hw1.mono (by simp; omega))
        go_roundw
        case rel => exact ⟨i + 1, by omega, by go_num, Hr, hb1⟩
        case measure => simp [intOf]; omega
    · obtain rfl : i = n := by omega
      have hall : ∀ f ∈ l, rightB f = true := fun f hf => by
        obtain ⟨j, hj, rfl⟩ := List.mem_iff_getElem.1 hf
        exact hg.out j hj (by rw [← Hn.out]; exact hj)
      have Hall := Lib.hid hall
      clear hall hg
      by_cases h64 : 64 < i
      · have Hr := Lib.hid (printV_many Hall.out (by rw [Hn.out]; exact h64))
        go_wp2
        go_ret2
        exact ⟨by rw [Hr.out]; rfl, hbr⟩
      · have hz := hbr.size
        have hbd := Lib.fresh_isBuilder 113 5 wr
        have hb1 := (Below.refl wr.heap.size wr).alloc (Nat.le_refl _) (.cells #[.pointer none, .slice none 0 0] 113)
        obtain ⟨w1, hw1⟩ : ∃ w1, w1 = wr := ⟨_, rfl⟩
        subst hw1
        go_wp2
        go_loopw [8, 24] (fun _ iv wx => ∃ k : Nat, k ≤ i ∧ iv = .int .i64 k ∧ Hid (longH ((l.take k).flatMap linesH) = false) ∧ Lib.IsBuilder 113 5 w1.heap.size w1.heap.size (Lib.byteCells (endH ((l.take k).flatMap linesH))) wx ∧ Below w1.heap.size w1 wx ∧ w1.heap.size < wx.heap.size) (fun _ iv _ => i - (intOf iv).toNat)
        case atStart => exact ⟨0, by omega, rfl, Lib.hid rfl, hbd, hb1, by simp⟩
        case round =>
          obtain ⟨k, hk, rfl, hlong, hbk, hbw, hzw⟩ := hrel
          have hbw0 := hbr.trans (hbw.mono hz)
          by_cases hlk : k < i
          · have hil : k < l.length := by rw [Hn.out]; exact hlk
            obtain ⟨g, off, rfl, hgB, z0, z1⟩ := Hat.out k hil
            obtain ⟨s0, s1⟩ := Hsm.out _ (List.getElem_mem hil)
            have hrt := (right_iff _).1 (Hall.out _ (List.getElem_mem hil))
            have hn64 := hrt.n64
            have htk : l.take (k + 1) = l.take k ++ [l[k]] := by rw [List.take_succ_eq_append_getElem hil]
            have hhl := head_len (l.take k) (fun f hf => by
              obtain ⟨q1, q2⟩ := Hsm.out f (List.mem_of_mem_take hf)
              have q3 := ((right_iff _).1 (Hall.out f (List.mem_of_mem_take hf))).n64
              exact ⟨by omega, q2⟩)
            rw [List.length_take, Hn.out] at hhl
            have hlay := fun W (hW : Lib.IsBuilder 113 5 w1.heap.size w1.heap.size (Lib.byteCells (endH ((l.take k).flatMap linesH))) W) (hz2 : w1.heap.size ≤ W.heap.size) => hlayf_any w1.heap.size w1.heap.size (endH ((l.take k).flatMap linesH)) l[k] W hW hz2 (by omega) (by omega) (by omega)
            have hbad : Hid (longH (linesH l[k]) = true → printV10 l = .tuple #[.string ⟨#[]⟩, .int .i64 3]) := Lib.hid fun h => printV_long Hall.out (by rw [Hn.out]; omega) (by
              have e : l = l.take (k + 1) ++ l.drop (k + 1) := (List.take_append_drop _ _).symm
              rw [e, List.flatMap_append, long_append, htk, List.flatMap_append, long_append, List.flatMap_cons, long_append, h]
              simp)
            have hnext : Hid (longH (linesH l[k]) = false → longH ((l.take (k + 1)).flatMap linesH) = false) := Lib.hid fun h => by
              rw [htk, List.flatMap_append, long_append, hlong.out, List.flatMap_cons, long_append, h]
              rfl
            have htext : Hid (endH ((l.take k).flatMap linesH) ++ endH (linesH l[k]) = endH ((l.take (k + 1)).flatMap linesH)) := Lib.hid (by
              rw [htk, List.flatMap_append, end_append, List.flatMap_cons, List.flatMap_nil, List.append_nil])
            obtain ⟨f, hf⟩ : ∃ f, l[k] = f := ⟨_, rfl⟩
            rw [hf] at z0 z1 hbad hnext htext
            simp only [hf] at hlay
            unfold fieldV at hlay
            obtain ⟨X, hX⟩ : ∃ X, textQ f.1 = X := ⟨_, rfl⟩
            obtain ⟨Y, hY⟩ : ∃ Y, textQ f.2 = Y := ⟨_, rfl⟩
            obtain ⟨acc, hacc⟩ : ∃ acc, endH ((l.take k).flatMap linesH) = acc := ⟨_, rfl⟩
            rw [hX] at z0
            rw [hY] at z1
            simp only [hX, hY, hacc] at hlay
            rw [hacc] at hbk htext
            have y0 := (hbw0.cell (p := ⟨g, off + k * 2, none⟩) (by show g < w.heap.size; omega)).trans z0
            have y1 := (hbw0.cell (p := ⟨g, off + k * 2 + 1, none⟩) (by show g < w.heap.size; omega)).trans z1
            have hgr : g < wr.heap.size := by have := hbw0.size; omega
            have p1 : Below wr.heap.size wr (wr.alloc (.cells #[.string X, .string Y] 38)) := (Below.refl _ _).alloc (Nat.le_refl _) _
            have hcall := hlay _ (isbuilder_below hbk p1) (by have := p1.size; omega)
            have p2 := Lib.hid (hbw.trans (p1.mono (by omega)))
            have p3 : wr.heap.size < (wr.alloc (.cells #[.string X, .string Y] 38)).heap.size := by simp
            have P3 := Lib.hid p3
            clear z0 z1 s0 s1 hX hY hil hf hlay hbk htk hhl hrt hn64 hacc hlong p1 p3
            cases hq : longH (linesH f) with
            | true =>
              rw [hq] at hcall
              have Hr := Lib.hid (hbad.out hq)
              clear hbad hnext htext hq
              go_wp2_with (go_at_call 125; refine hcall.mono ?_; rintro e w3 ⟨rfl, _, hw3⟩)
              have hb3 := hbr.trans ((p2.out.trans hw3).mono hz)
              go_ret2
              exact ⟨by rw [Hr.out]; rfl, hb3⟩
            | false =>
              rw [hq] at hcall
              have Hr := Lib.hid (hnext.out hq)
              clear hbad hnext hq
              go_wp2_with (go_at_call 125; refine hcall.mono ?_; rintro e w3 ⟨rfl, hbd3, hw3⟩)
              have hb3 := p2.out.trans hw3
              have hz3 : w1.heap.size < w3.heap.size := (hbd3 trivial).lt
              go_roundw
              case rel => exact ⟨k + 1, by omega, by go_num, Hr, .inr (by rw [← htext.out]; exact hbd3 trivial), hb3, hz3⟩
              case measure => simp [intOf]; omega
          · obtain rfl : k = i := by omega
            have hhl := head_len l (fun f hf => by
              obtain ⟨q1, q2⟩ := Hsm.out f hf
              have q3 := ((right_iff _).1 (Hall.out f hf)).n64
              exact ⟨by omega, q2⟩)
            rw [List.take_of_length_le (by rw [Hn.out]; exact Nat.le_refl _)] at hbk hlong
            have Hr := Lib.hid (printV_good Hall.out (by rw [Hn.out]; omega) hlong.out)
            rw [Hn.out] at hhl
            have hw2 := bwrite_any w1.heap.size w1.heap.size _ ⟨#[13, 10]⟩ wr hbk (by rw [Lib.byteCells_length]; show _ + 2 ≤ _; omega) (by omega)
            rw [show Lib.byteCells (endH (l.flatMap linesH)) ++ Lib.strCells ⟨#[13, 10]⟩ = Lib.byteCells (headerH l) by unfold headerH; rw [Lib.byteCells_append]; rfl] at hw2
            have hhd : (headerH l).length ≤ 100000000 := by unfold headerH; simp; omega
            clear hbk hlong hhl
            go_wp2_with fail
            refine hw2.mono ?_
            rintro e w3 ⟨rfl, hb3, hw3⟩
            have hbw3 := hbw.trans hw3
            have hz3 := hbw3.size
            have hstr := Tryz.Builder_String_any w1.heap.size w1.heap.size (headerH l) w3 (.inr hb3) hz3
            clear hw2 hb3 hw3
            go_wp2_with fail
            refine hstr.mono ?_
            rintro e w5 ⟨rfl, hw5⟩
            go_wp2
            go_ret2
            exact ⟨by rw [Hr.out]; rfl, hbr.trans ((hbw3.trans hw5).mono hz)⟩
end Go.Proofs.YtjikghndoklajaaGreatDoor
