/-
  What base64.Fold comes to: told by the plain function.
-/
import Derived.Test.YteihmdjjofekoaaL64
import Derived.Test.YteihmdjjofekoaaRangeP
import Derived.Test.YteihmdjjofekoaaB64L
namespace Go.Proofs.Yteihmdjjofekoaa
open Go.RowKit Go.Shelf

attribute [local go_sem] Oper.semAt_some

/-- What lies in Fold's own blocks between two rounds: the builder's in b, the letters' in bs. -/
def FoldJ (bs B b : Nat) (w : World) (pre : List (List UInt8)) (W : World) : Prop := Lib.BuilderAt 44 5 B b (.pointer (some ⟨b, 0, none⟩)) (Lib.byteCells (pre.flatMap lineE)) W ∧ Below B w W ∧ ∃ x, W.heap[bs]? = some (.cells #[x] 9 (0, 0))
def FoldK (bs : Nat) (A B : World) : Prop := B.heap[bs]? = A.heap[bs]?
theorem box_own {W W' : World} {row : Option Nat} {bs : Nat} (h : ∃ x, W.heap[bs]? = some (.cells #[x] 9 (0, 0))) (hg : W.grownBy W' row) (hr : ∀ r, row = some r → ∃ o : Obj, W.heap[r]? = some o ∧ o.isCells = false) : ∃ x, W'.heap[bs]? = some (.cells #[x] 9 (0, 0)) := by
  obtain ⟨x, h⟩ := h
  refine ⟨x, (hg.block bs (Array.getElem?_eq_some_iff.1 h).1 fun e => ?_).trans h⟩
  obtain ⟨o, ho, hc⟩ := hr bs e.symm
  rw [h] at ho
  cases ho
  cases hc
theorem FoldJ.own {bs B b : Nat} {w : World} {M : Nat} (hB : B ≤ w.heap.size) (hM : B ≤ M) : OwnFrom M (FoldJ bs B b w) := by
  rintro pre W W' row ⟨h1, h2, h5⟩ hg hr
  have hr' : ∀ r, row = some r → ∃ o : Obj, W.heap[r]? = some o ∧ o.isCells = false := fun r e => (hr r e).2
  exact ⟨builder_grown h1 hg hr', h2.grown hg (by have := h2.size; omega) fun k e => by have := (hr k e).1; omega, box_own h5 hg hr'⟩
theorem FoldJ.store {bs B b : Nat} {w : World} (hbs : B ≤ bs) (pre : List (List UInt8)) (A : World) (v : Value) : FoldJ bs B b w pre A → FoldJ bs B b w pre (A.setCell ⟨bs, 0, none⟩ v) := by
  rintro ⟨h1, h2, h5⟩
  refine ⟨builder_other v h1 h5, h2.setCell (p := ⟨bs, 0, none⟩) hbs v, ?_⟩
  obtain ⟨x, h5⟩ := h5
  exact ⟨v, Boxed.set v h5⟩
/-- Lines so far are no longer than all. -/
theorem pre_len {l : List UInt8} {pre rest : List (List UInt8)} {x : List UInt8} (h : chunkB l = pre ++ x :: rest) : (pre.flatMap lineE).length + x.length + 2 ≤ (foldB l).length := by
  rw [fold_chunk l _ rfl, h, List.flatMap_append, List.flatMap_cons, List.length_append, List.length_append]
  unfold lineE
  simp only [List.length_append, List.length_cons, List.length_nil]
  omega
theorem pre_snoc (pre : List (List UInt8)) (x : List UInt8) : Lib.byteCells (pre.flatMap lineE) ++ Lib.strCells ⟨x.toArray⟩ ++ Lib.strCells ⟨#[13, 10]⟩ = Lib.byteCells ((pre ++ [x]).flatMap lineE) := by
  rw [List.flatMap_append, List.flatMap_cons, List.flatMap_nil, List.append_nil, Lib.byteCells_append]
  unfold lineE
  rw [Lib.byteCells_append, List.append_assoc]
  rfl

set_option maxRecDepth 100000 in
set_option maxHeartbeats 2000000 in
theorem fold_any (s : ByteArray) (w : World) (hs : s.size ≤ 1000000) :
    Calls Try.prog 16 #[.string s] w fun e w' => e = .returned (.string ⟨(foldB (encB s.data.toList)).toArray⟩) ∧ Below w.heap.size w w' := by
  have hel := enc_len s.data.toList
  have hl : s.data.toList.length = s.size := rfl
  rw [hl] at hel
  refine (callsIn_wide (n := 8)).1 ?_
  refine callsIn_of_wp_marks Try.func16 rfl trivial ?_ rfl
  simp only [Try.ntmps16, List.size_toArray, List.length_cons, List.length_nil, Nat.reduceAdd, Nat.reduceSub, Array.replicate_succ, Array.replicate_zero, List.push_toArray, List.append_toArray, List.nil_append, List.cons_append]
  gi_wp2_with fail
  refine ⟨trivial, ?_⟩
  refine (callsIn_wide.2 (enc_any s _ (by omega))).mono ?_
  rintro e w1 ⟨rfl, hw1⟩
  obtain ⟨t, ht⟩ : ∃ t : ByteArray, t = ⟨(encB s.data.toList).toArray⟩ := ⟨_, rfl⟩
  have htl : t.data.toList = encB s.data.toList := by rw [ht]
  have hts : t.size ≤ 2000000 := by
    have : t.size = t.data.toList.length := rfl
    rw [this, htl, hel]; omega
  have hfl := fold_size t.data.toList
  rw [show t.data.toList.length = t.size from rfl] at hfl
  rw [← ht]
  have Htl := Lib.hid htl
  have Hfl := Lib.hid hfl
  clear ht hel hl htl hfl
  gi_wp2_with fail
  refine ⟨trivial, ?_⟩
  refine (callsIn_wide.2 (grow_new _ ?g0 ?g1 w1)).mono ?_
  case g0 => omega
  case g1 => omega
  rintro e w2 ⟨rfl, hb2, hw2⟩
  have hz2 : w1.heap.size < w2.heap.size := hb2.lt
  have hB := hw1.size
  gi_wp2_with fail
  refine ⟨trivial, ?_⟩
  refine (callsIn_wide.2 (lines_any t _)).mono ?_
  rintro e w3 ⟨rfl, hw3⟩
  have hx3 : Boxed w3 w2.heap.size 9 (.string t) := by rw [hw3]; exact Boxed.new _ _ _
  have hz3 : w3.heap.size = w2.heap.size + 1 := by rw [hw3]; simp
  have hb3 : Lib.BuilderAt 44 5 w1.heap.size w1.heap.size (.pointer (some ⟨w1.heap.size, 0, none⟩)) (Lib.byteCells (([] : List (List UInt8)).flatMap lineE)) w3 := by
    rw [hw3]
    exact builder_grown hb2 (World.grownBy_alloc _ _ none) (fun r e => by cases e)
  have hw3b : Below w1.heap.size w1 w3 := by
    rw [hw3]
    exact hw2.alloc (by omega) _
  clear hw3 hb2 hw2
  gi_wp2
  refine range_pre (n := 8) (by omega) (gf := 40) (lb := #[.pointer (some ⟨w2.heap.size, 0, none⟩)]) rfl (enters_of Try.func40 (by kernel_rfl) rfl)
    (encs := fun x : List UInt8 => #[.string ⟨x.toArray⟩]) (R := fun pre x => x.length ≤ 76 ∧ ∃ rest, chunkB t.data.toList = pre ++ x :: rest) (K := FoldK w2.heap.size) (S := fun ys => ys = chunkB t.data.toList) (Sp := fun pre => ∃ rest, chunkB t.data.toList = pre ++ rest) (bs := w2.heap.size) (by omega) ?seq
    (fun h k => Eq.trans k h) (fun W l o' hl => World.putObj_heap_other (by omega)) (fun _ => rfl)
    (FoldJ w2.heap.size w1.heap.size w1.heap.size w1) (fun _ _ _ => False) (FoldJ.own (Nat.le_refl _) (by omega)) (FoldJ.store (by omega)) (fun _ _ _ _ _ h => h.elim) ⟨hb3, hw3b, _, hx3⟩
    (fun x => { tmps := #[.string s, undef, .string ⟨#[]⟩, .string t, .pointer (some ⟨w1.heap.size, 0, none⟩), .string ⟨x.toArray⟩, .string s, .string t, .string t, .int .i64 t.size, .string t, .int .i64 t.size, .int .i64 ((t.size : Int) + 76), .int .i64 ((t.size : Int) + 76 - 1), .int .i64 (((t.size : Int) + 76 - 1) / 76), .int .i64 (((t.size : Int) + 76 - 1) / 76 * 2), .int .i64 ((t.size : Int) + ((t.size : Int) + 76 - 1) / 76 * 2), .tuple #[], .string t, .func (.func 40) #[] #[.pointer (some ⟨w2.heap.size, 0, none⟩)], .string ⟨x.toArray⟩, undef, undef, undef, undef], defers := [] }) ?assign ?body ?done ?stop
  case seq =>
    intro l J Jx W hW hJs hY h0
    refine lines_in 7 (by omega) l w2.heap.size t J Jx ?_ W ((hW.cell (p := ⟨w2.heap.size, 0, none⟩) (by simp; omega)).trans hx3.cell) (by omega) h0
    intro pre x W1 hj hx
    exact hY pre x W1 hj hx
  case assign =>
    intro l x W C hC
    gi_wp2
    exact hC
  case body =>
    rintro l pre x W ⟨h1, h2, h5⟩ ⟨hx76, rest, hx⟩
    have hpl := pre_len hx
    have hfl := Hfl.out
    have hsz := h2.size
    have hbl : (Lib.byteCells (pre.flatMap lineE)).length = (pre.flatMap lineE).length := Lib.byteCells_length _
    have hxs : (⟨x.toArray⟩ : ByteArray).size = x.length := rfl
    have hw1r := bwrite_k w1.heap.size w1.heap.size _ ⟨x.toArray⟩ W h1 (by omega) hsz
    have hcells : ∃ cs T fz, W.heap[w1.heap.size]? = some (.cells cs T fz) := by
      obtain ⟨_, v, hb, _⟩ := h1
      exact ⟨_, _, _, hb⟩
    have Hbd := Lib.hid (show (Lib.byteCells (pre.flatMap lineE) ++ Lib.strCells ⟨x.toArray⟩).length + 2 ≤ 140737488355328 by rw [List.length_append, hbl, Lib.strCells_length]; omega)
    clear hpl hfl hbl hxs hx
    gi_wp2_with fail
    refine ⟨trivial, ?_⟩
    refine (CallsIn.inRound l (callsIn_wide.2 hw1r)).mono ?_
    rintro e W2 ⟨rfl, hb2, hbe2, ho2, hz2⟩
    have hcells2 : ∃ cs T fz, W2.heap[w1.heap.size]? = some (.cells cs T fz) := by
      obtain ⟨_, v, hb, _⟩ := hb2
      exact ⟨_, _, _, hb⟩
    have hw2r := bwrite_k w1.heap.size w1.heap.size _ ⟨#[13, 10]⟩ W2 hb2 Hbd.out (by omega)
    rw [pre_snoc] at hw2r
    clear hw1r Hbd
    gi_wp2_with fail
    refine ⟨trivial, ?_⟩
    refine (CallsIn.inRound l (callsIn_wide.2 hw2r)).mono ?_
    rintro e W3 ⟨rfl, hb3, hbe3, ho3, hz3⟩
    gi_wp2
    obtain ⟨y, hy⟩ := h5
    have e2 := ho2 _ _ hy (by simp; omega) (fun c fz e => by simp at e)
    have e3 := ho3 _ _ e2 (by simp; omega) (fun c fz e => by simp at e)
    exact ⟨(keeps_of ho2 hcells hz2).trans (keeps_of ho3 hcells2 hz3), e3.trans hy.symm, hb3, (h2.trans hbe2).trans hbe3, y, e3⟩
  case done =>
    rintro D ys W hD rfl ⟨h1, h2, h5⟩ hK
    rw [← fold_chunk _ _ rfl] at h1
    have hstr := Try.Builder_String_any_k w1.heap.size w1.heap.size _ W (Lib.IsBuilderF.of (.inr h1)) h2.size
    have hDne : some D ≠ some w1.heap.size := by simp; omega
    clear h1
    gi_wp2_with fail
    refine ⟨trivial, ?_⟩
    refine (callsIn_wide.2 hstr).mono ?_
    rintro e W2 ⟨rfl, _, hbe, ho⟩
    have hK' : W2.heap[D]? = some (.deferred (some [])) := ho D _ hK hDne (fun c fz e => by cases e)
    clear hstr
    gi_wp2
    refine ⟨by simp, .inl ⟨_, _, rfl, run_takeDeferred hK', ?_⟩⟩
    refine ⟨.string ⟨(foldB t.data.toList).toArray⟩, by simp [results, Try.f16, go_sem], by rw [Htl.out], ?_⟩
    exact (hw1.trans ((h2.trans hbe).mono hB)).trans (belowK_b (w := w) (Nat.le_refl _) W2 D _ _ (by omega) hK' rfl rfl)
  case stop =>
    rintro D c pre W hD _ h
    exact h.elim
end Go.Proofs.Yteihmdjjofekoaa
