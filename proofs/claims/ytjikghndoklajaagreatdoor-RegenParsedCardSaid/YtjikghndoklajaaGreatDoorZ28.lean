/-
  Texts of this proof, put together: SplitS, Q5E, W5I, HdD.
-/
import Derived.Test.YtjikghndoklajaaGreatDoorRows
import Derived.WalkKit
import Derived.WalkSpells
import Derived.WalkLawsBesides
import Derived.Test.YtjikghndoklajaaGreatDoorZ26
import Derived.Test.YtjikghndoklajaaGreatDoorZ27
import Derived.Test.YtjikghndoklajaaGreatDoorZ01
import Derived.Test.YtjikghndoklajaaGreatDoorZ03
import Derived.RangeFuncFrom
import Derived.RangeFuncLeaves
import Derived.RangeFuncCalls
import Derived.Shelf.Abstract
import Derived.Shelf.RegionOpen
import Derived.OwnWalkIn
import Derived.TacticsInMore
import Derived.LoopNIn
import Derived.LoopIn
import Derived.Lib.Hide
import Derived.Test.YtjikghndoklajaaGreatDoorZ15
namespace Go.Proofs.YtjikghndoklajaaGreatDoor
open Go.RowKit

set_option maxRecDepth 100000 in
theorem splitSeq_anyQ (s sep : ByteArray) (w : World) : Calls Tryz.prog 114 #[.string s, .string sep] w fun e w' =>
    e = .returned (.func (.func 170) #[] #[.pointer (some ⟨w.heap.size + 1, 0, none⟩), .pointer (some ⟨w.heap.size, 0, none⟩), .pointer (some ⟨w.heap.size + 1 + 1, 0, none⟩)]) ∧
    w' = ((w.alloc (.cells #[.string s] 9)).alloc (.cells #[.string sep] 9)).alloc (.cells #[.int .i64 0] 3) := by
  have hmf : ∀ (fn : Fn) (first cap : Array Value) (w : World), (Instr.makeFunc fn first cap).run Tryz.prog w = .ok (.func fn first cap) w := fun _ _ _ _ => rfl
  go_enter Tryz.func114, Tryz.ntmps114
  go_wp2
  go_ret
  exact ⟨rfl, rfl⟩
end Go.Proofs.YtjikghndoklajaaGreatDoor
namespace Go.Proofs.YtjikghndoklajaaGreatDoor
open Go.RowKit Go.Shelf

attribute [local go_sem] Oper.semAt_some

theorem grow_newQ (n : Int) (h0 : 0 ≤ n) (h1 : n ≤ 281474976710656) (w : World) :
    Calls Tryz.prog 72 #[.pointer (some ⟨w.heap.size, 0, none⟩), .int .i64 n] (w.alloc (.cells #[.pointer none, .slice none 0 0] 113)) fun e w' => e = .returned (.tuple #[]) ∧ (Lib.BuilderAt 113 5 w.heap.size w.heap.size (.pointer (some ⟨w.heap.size, 0, none⟩)) [] w' ∧ Below w.heap.size w w') := by
  obtain ⟨m, rfl⟩ := Int.eq_ofNat_of_zero_le h0
  refine (Tryz.Builder_Grow_fresh w.heap.size w.heap.size m _ (Nat.le_refl _) (heap_alloc_new w _) (by simp) (by omega)).mono ?_
  rintro e w' ⟨he, hb, hw⟩
  exact ⟨he, hb, ((Below.refl _ w).alloc (Nat.le_refl _) _).trans hw⟩
def EncI (B b k : Nat) (w : World) (pre : List (List UInt8)) (W : World) : Prop :=
  Lib.BuilderAt 113 5 B b (.pointer (some ⟨b, 0, none⟩)) (Lib.byteCells (soFarQ pre)) W ∧ Boxed W k 9 (.string ⟨(betweenQ pre).toArray⟩) ∧ (∃ x, Boxed W (k + 1) 9 x) ∧ Boxed W (k + 1 + 1) 9 (.string ⟨#[13, 10]⟩) ∧ Boxed W (k + 1 + 1 + 1) 3 (.int .i64 0) ∧ Below B w W
def EncK (k : Nat) (A B : World) : Prop := ∀ b, b = 0 ∨ (k < b ∧ b < k + 4) → B.heap[b]? = A.heap[b]?
theorem EncI.own {B b k M : Nat} {w : World} (hB : B ≤ w.heap.size) (hM : B ≤ M) : OwnFrom M (EncI B b k w) := by
  rintro pre W W' row ⟨h1, h2, ⟨x, h3⟩, h4, h5, h6⟩ hg hr
  have hr' : ∀ r, row = some r → ∃ o : Obj, W.heap[r]? = some o ∧ o.isCells = false := fun r e => (hr r e).2
  exact ⟨builder_grown h1 hg hr', boxed_ownQ h2 hg hr', ⟨x, boxed_ownQ h3 hg hr'⟩, boxed_ownQ h4 hg hr', boxed_ownQ h5 hg hr', h6.grown hg (by have := h6.size; omega) fun k e => by have := (hr k e).1; omega⟩
theorem EncI.store {B b k : Nat} {w : World} (hk : B ≤ k + 1) (pre : List (List UInt8)) (A : World) (v : Value) : EncI B b k w pre A → EncI B b k w pre (A.setCell ⟨k + 1, 0, none⟩ v) := by
  rintro ⟨h1, h2, ⟨x, h3⟩, h4, h5, h6⟩
  exact ⟨builder_box (t := 9) (by decide) v h1 ⟨x, h3⟩, h2.other (by omega) v, ⟨v, h3.set v⟩, h4.other (by omega) v, h5.other (by omega) v, h6.setCell (p := ⟨k + 1, 0, none⟩) hk v⟩

set_option maxRecDepth 100000 in
set_option maxHeartbeats 2000000 in
theorem q4enc_any (s : ByteArray) (m : Int) (w : World) (hs : s.size ≤ 1000000) (hm : w.cell? ⟨0, 0, none⟩ = some (.int .i64 m)) :
    Calls Tryz.prog 78 #[.string s] w fun e w' => e = .returned (.string ⟨(encQ s.data.toList).toArray⟩) ∧ Below w.heap.size w w' := by
  have hl : s.data.toList.length = s.size := rfl
  refine (callsIn_wide (n := 8)).1 ?_
  refine callsIn_of_wp_marks Tryz.func78 rfl trivial ?_ rfl
  simp only [Tryz.ntmps78, List.size_toArray, List.length_cons, List.length_nil, Nat.reduceAdd, Nat.reduceSub, Array.replicate_succ, Array.replicate_zero, List.push_toArray, List.append_toArray, List.nil_append, List.cons_append]
  gi_wp2_with fail
  refine ⟨trivial, ?_⟩
  refine (callsIn_wide.2 (grow_newQ _ ?g0 ?g1 w)).mono ?_
  case g0 => omega
  case g1 => omega
  rintro e w1 ⟨rfl, hb1, hw1⟩
  have hz1 : w.heap.size < w1.heap.size := hb1.lt
  gi_wp2_with fail
  refine ⟨trivial, ?_⟩
  refine (callsIn_wide.2 (splitSeq_anyQ s _ _)).mono ?_
  rintro e w2 ⟨rfl, hw2⟩
  have hz2 : w2.heap.size = w1.heap.size + 4 := by rw [hw2]; simp
  have hb2 : Lib.BuilderAt 113 5 w.heap.size w.heap.size (.pointer (some ⟨w.heap.size, 0, none⟩)) (Lib.byteCells (soFarQ [])) w2 := by
    rw [hw2]
    exact builder_below hb1 (((((Below.refl _ _).alloc (Nat.le_refl _) _).alloc (by simp) _).alloc (by simp; omega) _).alloc (by simp; omega) _)
  have hbw2 : Below w.heap.size w w2 := by
    rw [hw2]
    exact (((hw1.alloc (by omega) _).alloc (by simp; omega) _).alloc (by simp; omega) _).alloc (by simp; omega) _
  have x0 : Boxed w2 w1.heap.size 9 (.string ⟨#[]⟩) := by rw [hw2]; exact (((Boxed.new _ _ _).alloc _).alloc _).alloc _
  have x1 : Boxed w2 (w1.heap.size + 1) 9 (.string s) := by
    rw [hw2]
    have := Boxed.new (w1.alloc (.cells #[.string ⟨#[]⟩] 9)) 9 (.string s)
    rw [World.size_alloc] at this
    exact (this.alloc _).alloc _
  have x2 : Boxed w2 (w1.heap.size + 1 + 1) 9 (.string ⟨#[13, 10]⟩) := by
    rw [hw2]
    have := Boxed.new ((w1.alloc (.cells #[.string ⟨#[]⟩] 9)).alloc (.cells #[.string s] 9)) 9 (.string ⟨#[13, 10]⟩)
    rw [World.size_alloc, World.size_alloc] at this
    exact this.alloc _
  have x3 : Boxed w2 (w1.heap.size + 1 + 1 + 1) 3 (.int .i64 0) := by
    rw [hw2]
    have := Boxed.new (((w1.alloc (.cells #[.string ⟨#[]⟩] 9)).alloc (.cells #[.string s] 9)).alloc (.cells #[.string ⟨#[13, 10]⟩] 9)) 3 (.int .i64 0)
    rw [World.size_alloc, World.size_alloc, World.size_alloc] at this
    exact this
  have hmb : (0 : Nat) + 0 < w.heap.size := by
    have := (show 0 < w.heap.size from by
      rcases Nat.lt_or_ge 0 w.heap.size with h | h
      · exact h
      · rw [World.cell?, Array.getElem?_eq_none h] at hm
        simp at hm)
    omega
  have hm2 : w2.cell? ⟨0, 0, none⟩ = some (.int .i64 m) := (hbw2.cell (p := ⟨0, 0, none⟩) (by simp; omega)).trans hm
  have Hl := Lib.hid hl
  have HK : Hid (EncI w.heap.size w.heap.size w1.heap.size w [] w2) := Lib.hid ⟨hb2, x0, ⟨_, x1⟩, x2, x3, hbw2⟩
  obtain ⟨k, hk⟩ : ∃ k, w1.heap.size = k := ⟨_, rfl⟩
  rw [hk] at hz1 hz2 x0 x1 x2 x3 HK
  have Hw2 := Lib.hid hw2
  clear hb1 hw1 hl hb2 hbw2 hw2
  gi_wp2
  clear Hw2 hk
  refine range_pre (n := 8) (by omega) (gf := 170) (lb := #[.pointer (some ⟨k + 1 + 1, 0, none⟩), .pointer (some ⟨k + 1, 0, none⟩), .pointer (some ⟨k + 1 + 1 + 1, 0, none⟩)]) rfl (enters_of Tryz.func170 (by kernel_rfl) rfl)
    (encs := fun x : List UInt8 => #[.string ⟨x.toArray⟩]) (R := fun pre x => ∃ rest, linesQ s.data.toList = pre ++ x :: rest) (K := EncK k) (S := fun ys => ys = linesQ s.data.toList) (Sp := fun pre => ∃ rest, linesQ s.data.toList = pre ++ rest) (bs := k + 1) (by omega) ?seq
    (fun h k b h1 => (k b h1).trans (h b h1)) (fun W l o' hl b h1 => World.putObj_heap_other (by omega)) (fun _ => rfl)
    (EncI w.heap.size w.heap.size k w) (fun _ _ _ => False) (EncI.own (Nat.le_refl _) (by omega)) (EncI.store (by omega)) (fun _ _ _ _ _ h => h.elim) HK.out
    (fun x => { tmps := #[.string s, undef, .string ⟨#[]⟩, .pointer (some ⟨w.heap.size, 0, none⟩), .pointer (some ⟨k, 0, none⟩), .string ⟨x.toArray⟩, .string s, .int .i64 s.size, .tuple #[], .string s,
      .func (.func 170) #[] #[.pointer (some ⟨k + 1 + 1, 0, none⟩), .pointer (some ⟨k + 1, 0, none⟩), .pointer (some ⟨k + 1 + 1 + 1, 0, none⟩)], .string ⟨x.toArray⟩, undef, undef, undef, undef, undef, undef], defers := [] }) ?assign ?body ?done ?stop
  case seq =>
    intro l J Jx W hW hJs hY h0
    refine CallsIn.mono (split_end_in 7 (by omega) l (k + 1) (k + 1 + 1) (k + 1 + 1 + 1) (by omega) s m linesQ (fun t h => lines_none h) (fun t i h => lines_some h) (fun pre A => J pre A ∧ A.cell? ⟨0, 0, none⟩ = some (.int .i64 m)) Jx
      (fun pre A v h => ⟨hJs pre A v h.1, by rw [World.cell?_setCell_other _ _ _ _ (by intro e; injection e with e; omega)]; exact h.2⟩) (fun pre A h => h.2) ?_ W
      ((hW.cell (p := ⟨k + 1, 0, none⟩) (by simp; omega)).trans x1.cell) ((hW.frozen (p := ⟨k + 1, 0, none⟩) (by simp; omega)).trans x1.frozen)
      ((hW.cell (p := ⟨k + 1 + 1, 0, none⟩) (by simp; omega)).trans x2.cell) ((hW.cell (p := ⟨k + 1 + 1 + 1, 0, none⟩) (by simp; omega)).trans x3.cell) (by omega) ⟨h0, ?_⟩) ?_
    · rintro pre x W1 ⟨hj, hj2⟩ hx
      refine YieldAt.mono (hY pre x W1 hj hx) ?_
      rintro e W' (⟨he, hj', hk'⟩ | h)
      · exact .inl ⟨he, ⟨hj', (World.cell?_of_block (hk' _ (.inl rfl))).trans hj2⟩, fun b hb => hk' b (by omega)⟩
      · exact .inr h
    · exact (hW.cell (p := ⟨0, 0, none⟩) (by simp; omega)).trans hm2
    · rintro e W' ⟨he, (⟨ys, h1, h2, _⟩ | h)⟩
      · exact ⟨he, .inl ⟨ys, h1, h2⟩⟩
      · exact ⟨he, .inr h⟩
  case assign =>
    intro l x W C hC
    gi_wp2
    exact hC
  case body =>
    rintro l pre x W ⟨h1, h2, ⟨y, h3⟩, h4, h5, h6⟩ ⟨rest, hx⟩
    have hln := soFar_len hx
    rw [Hl.out] at hln
    have hsn := soFar_snoc pre x
    have hbl : (Lib.byteCells (soFarQ pre)).length = (soFarQ pre).length := Lib.byteCells_length _
    obtain ⟨X, hX⟩ : ∃ X : ByteArray, (⟨x.toArray⟩ : ByteArray) = X := ⟨_, rfl⟩
    obtain ⟨Y, hY⟩ : ∃ Y : ByteArray, (⟨(betweenQ pre).toArray⟩ : ByteArray) = Y := ⟨_, rfl⟩
    have hXl : X.data.toList = x := by rw [← hX]
    have hYl : Y.data.toList = betweenQ pre := by rw [← hY]
    have hYs : Y.size = (betweenQ pre).length := by rw [← hY]; rfl
    have hXs : X.size ≤ (tellQ 0 x).length := by
      have e : X.size = x.length := by rw [← hX]; rfl
      have := tell_ge x 0
      omega
    rw [hX]
    rw [hY] at h2
    have n1 := builder_ne h1 h2
    have n2 := builder_ne h1 h3
    have n3 := builder_ne h1 h4
    have n4 := builder_ne h1 h5
    have c0 := h2.cell
    have hsz := h6.size
    have hw1 := bwrite_k w.heap.size w.heap.size _ Y W h1 (by omega) hsz
    rw [show Lib.byteCells (soFarQ pre) ++ Lib.strCells Y = Lib.byteCells (soFarQ pre ++ betweenQ pre) by rw [← hYl, Lib.byteCells_append]; rfl] at hw1
    rw [← hXl] at hsn
    have Hsn := Lib.hid hsn
    have hl2 : (soFarQ pre ++ betweenQ pre).length + (tellQ 0 X.data.toList).length ≤ 100000000 := by rw [hXl, List.length_append]; omega
    have Hl2 := Lib.hid hl2
    have hX8 : X.size ≤ 100000000 := by omega
    have H1 := Lib.hid h1
    have H2 := Lib.hid h2
    have H3 := Lib.hid h3
    have H4 := Lib.hid h4
    have H5 := Lib.hid h5
    have H6 := Lib.hid h6
    clear hln hsn hbl hX hY hYl hYs hXs hl2 hx h1 h2 h3 h4 h5 h6
    gi_wp2_with fail
    refine ⟨trivial, ?_⟩
    refine (CallsIn.inRound l (callsIn_wide.2 hw1)).mono ?_
    rintro e W2 ⟨rfl, hb2, hbe2, ho2, hz2'⟩
    clear hw1
    gi_wp2_with fail
    refine ⟨trivial, ?_⟩
    refine (CallsIn.inRound l (callsIn_wide.2 (putter_any w.heap.size W2))).mono ?_
    rintro e W3 ⟨rfl, hW3⟩
    have b3 : Below W2.heap.size W2 W3 := by rw [hW3]; exact ((Below.refl _ _).alloc (Nat.le_refl _) _).alloc (by simp) _
    have z3 : W3.heap.size = W2.heap.size + 2 := by rw [hW3]; simp
    have hD3 : Boxed W3 W2.heap.size 111 (.pointer (some ⟨w.heap.size, 0, none⟩)) := by rw [hW3]; exact (Boxed.new _ _ _).alloc _
    have hC3 : Boxed W3 (W2.heap.size + 1) 3 (.int .i64 0) := by
      rw [hW3]
      have := Boxed.new (W2.alloc (.cells #[.pointer (some ⟨w.heap.size, 0, none⟩)] 111)) 3 (.int .i64 0)
      rw [World.size_alloc] at this
      exact this
    have ht := tell_any w.heap.size w.heap.size (W2.heap.size + 1) W2.heap.size _ X W3 (builder_below hb2 b3) hC3 hD3 (by omega) Hl2.out (by omega) hX8
    have K3 := Lib.hid ((KeptBut.of (c := W2.heap.size + 1) ho2).trans (kept_below (b := w.heap.size) (c := W2.heap.size + 1) b3))
    have B3 := Lib.hid (hbe2.trans (b3.mono (by omega)))
    have hzz : W.heap.size ≤ W3.heap.size := by omega
    have hne : ∀ q, q < W.heap.size → q ≠ W2.heap.size + 1 := fun q hq => by omega
    have Hne := Lib.hid hne
    have Hcl := Lib.hid hb2
    clear hW3 b3 hD3 hC3 hb2 ho2 hbe2 hne
    gi_wp2_with fail
    refine ⟨trivial, ?_⟩
    refine (CallsIn.inRound l (callsIn_wide.2 ht)).mono ?_
    rintro e W4 ⟨rfl, hb4, hbe4, hk4⟩
    have K4 := K3.out.trans hk4
    have Hz4 := Lib.hid (Nat.le_trans hzz hbe4.size)
    have g2 := K4.box (by decide) n1 (Hne.out _ H2.out.lt) H2.out
    have g3 := K4.box (by decide) n2 (Hne.out _ H3.out.lt) H3.out
    have g4 := K4.box (by decide) n3 (Hne.out _ H4.out.lt) H4.out
    have g5 := K4.box (by decide) n4 (Hne.out _ H5.out.lt) H5.out
    have c4 := g2.cell
    have f4 := g2.frozen
    rw [← Hsn.out] at hb4
    have hB6 := (H6.out.trans B3.out).trans hbe4
    have HG := Lib.hid (And.intro g2 (And.intro g3 (And.intro g4 (And.intro g5 (And.intro hb4 (And.intro hB6 K4))))))
    clear g2 g3 g4 g5 hb4 hB6 K4 ht hk4 hbe4
    have hcells : ∃ cs T fz, W.heap[w.heap.size]? = some (.cells cs T fz) := by
      obtain ⟨_, v, hb, _⟩ := H1.out
      exact ⟨_, _, _, hb⟩
    gi_wp2
    obtain ⟨g2, g3, g4, g5, hb4, hB6, K4⟩ := HG.out
    have hbq : betweenQ (pre ++ [x]) = [13, 10] := by unfold betweenQ; rw [if_neg (by simp)]
    have hkeep : KeepsOthers W W4 := ⟨Hz4.out, fun q o hq ho => K4 q o hq (fun e => by
      obtain ⟨cs, T, fz, hc⟩ := hcells
      rw [e, hc] at hq
      cases hq
      cases ho) (Hne.out q (heap_lt hq)) (fun c fz e => by subst e; cases ho)⟩
    refine ⟨hkeep.trans (KeepsOthers.setCell _ _ _), fun q hq => ?_, builder_box (t := 9) (by decide) _ (by rw [← hXl]; exact hb4) ⟨_, g2⟩, by rw [hbq]; exact g2.set _, ⟨_, g3.other (by omega) _⟩, g4.other (by omega) _, g5.other (by omega) _, hB6.setCell (p := ⟨k, 0, none⟩) (by simp; omega) _⟩
    rw [Below.heap_setCell _ _ _ _ (by rcases hq with rfl | hq <;> simp <;> omega)]
    rcases hq with rfl | hq
    · have a1 := hB6.block 0 (by omega)
      have a2 := H6.out.block 0 (by omega)
      exact a1.trans a2.symm
    · rcases (by omega : q = k + 1 ∨ q = k + 1 + 1 ∨ q = k + 1 + 1 + 1) with rfl | rfl | rfl
      · exact Eq.trans (show W4.heap[k + 1]? = _ from g3) (show W.heap[k + 1]? = _ from H3.out).symm
      · exact Eq.trans (show W4.heap[k + 1 + 1]? = _ from g4) (show W.heap[k + 1 + 1]? = _ from H4.out).symm
      · exact Eq.trans (show W4.heap[k + 1 + 1 + 1]? = _ from g5) (show W.heap[k + 1 + 1 + 1]? = _ from H5.out).symm
  case done =>
    rintro D ys W hD rfl ⟨h1, h2, h3, h4, h5, h6⟩ hK
    have e : soFarQ (linesQ s.data.toList) = encQ s.data.toList := rfl
    rw [e] at h1
    clear e
    have hstr := Tryz.Builder_String_any_k w.heap.size w.heap.size _ W (Lib.IsBuilderF.of (.inr h1)) h6.size
    have hDne : some D ≠ some w.heap.size := by simp; omega
    clear h1
    gi_wp2_with fail
    refine ⟨trivial, ?_⟩
    refine (callsIn_wide.2 hstr).mono ?_
    rintro e W2 ⟨rfl, _, hbe, ho⟩
    have hK' : W2.heap[D]? = some (.deferred (some [])) := ho D _ hK hDne (fun c fz e => by cases e)
    clear hstr
    gi_wp2
    refine ⟨by simp, .inl ⟨_, _, rfl, run_takeDeferred hK', ?_⟩⟩
    refine ⟨.string ⟨(encQ s.data.toList).toArray⟩, by simp [results, Tryz.f78, go_sem], rfl, ?_⟩
    exact (h6.trans hbe).trans (belowK_b (w := w) (Nat.le_refl _) W2 D _ _ (by omega) hK' rfl rfl)
  case stop =>
    rintro D c pre W hD _ h
    exact h.elim
end Go.Proofs.YtjikghndoklajaaGreatDoor
namespace Go.Proofs.YtjikghndoklajaaGreatDoor
open Go.RowKit Go.Shelf

attribute [local go_sem] Oper.semAt_some

theorem take_extract (s : ByteArray) (i : Nat) : (⟨(s.data.toList.take i).toArray⟩ : ByteArray) = s.extract 0 i := by
  rw [Lib.extract_eq]
  simp
theorem size_rest (s : ByteArray) (i : Nat) : (s.extract (i + 1) s.size).size = s.size - (i + 1) := by
  have h := congrArg List.length (Lib.extract_to_end s (i + 1))
  rw [List.length_drop] at h
  exact h

open Classical in
noncomputable def lenAt (w : World) (a : Addr) : Nat := match w.cell? a with | some (.string s) => s.size | _ => 0
theorem lenAt_of {w : World} {a : Addr} {s : ByteArray} (h : w.cell? a = some (.string s)) : lenAt w a = s.size := by unfold lenAt; rw [h]

set_option maxRecDepth 100000 in
set_option maxHeartbeats 2000000 in
theorem split_one_in (n : Nat) (hn : 1 ≤ n) (l bs bp bv : Nat) (hne : bs ≠ bp ∧ bs ≠ bv) (c : UInt8) (s0 : ByteArray) (J Jx : List (List UInt8) → World → Prop)
    (hJs : ∀ pre A v, J pre A → J pre (A.setCell ⟨bs, 0, none⟩ v))
    (hY : ∀ pre x W, J pre W → (∃ rest, splitB c s0.data.toList = pre ++ x :: rest) → YieldAt Fence.wide (n - 1) Tryz.prog l #[.string ⟨x.toArray⟩] W fun e W' =>
      (e = .returned (.bool true) ∧ J (pre ++ [x]) W' ∧ (∀ b, b = bs ∨ b = bp ∨ b = bv → W'.heap[b]? = W.heap[b]?)) ∨ (e = .returned (.bool false) ∧ Jx (pre ++ [x]) W'))
    (W : World) (hs : W.cell? ⟨bs, 0, none⟩ = some (.string s0)) (hf : W.frozen? ⟨bs, 0, none⟩ = false) (hp : W.cell? ⟨bp, 0, none⟩ = some (.string ⟨#[c]⟩)) (hv : W.cell? ⟨bv, 0, none⟩ = some (.int .i64 0)) (hsz : s0.size ≤ maxLen) (h0 : J [] W) :
    CallsIn Fence.wide n Tryz.prog 170 #[.func (.yield l) #[] #[], .pointer (some ⟨bp, 0, none⟩), .pointer (some ⟨bs, 0, none⟩), .pointer (some ⟨bv, 0, none⟩)] W fun e W' => (∃ v, e = .returned v) ∧
      ((∃ ys, ys = splitB c s0.data.toList ∧ J ys W') ∨ (∃ pre, (∃ rest, splitB c s0.data.toList = pre ++ rest) ∧ Jx pre W')) := by
  unfold maxLen at hsz
  refine callsIn_of_wp Tryz.func170 rfl trivial ?_ rfl
  simp only [Tryz.ntmps170, List.size_toArray, List.length_cons, List.length_nil, Nat.reduceAdd, Nat.reduceSub, Array.replicate_succ, Array.replicate_zero, List.push_toArray, List.append_toArray, List.nil_append, List.cons_append]
  gi_wp2
  gi_loopw [7] (fun _ wr => ∃ (pre : List (List UInt8)) (s : ByteArray), splitB c s0.data.toList = pre ++ splitB c s.data.toList ∧ s.size ≤ s0.size ∧ J pre wr ∧
      wr.cell? ⟨bs, 0, none⟩ = some (.string s) ∧ wr.frozen? ⟨bs, 0, none⟩ = false ∧ wr.cell? ⟨bp, 0, none⟩ = some (.string ⟨#[c]⟩) ∧ wr.cell? ⟨bv, 0, none⟩ = some (.int .i64 0))
    (fun _ wr => lenAt wr ⟨bs, 0, none⟩)
  case atStart => exact ⟨[], s0, rfl, Nat.le_refl _, h0, hs, hf, hp, hv⟩
  case round =>
    obtain ⟨pre, s, hx, hle, hJw, cs, cf, cp, cv⟩ := hrel
    by_cases hneg : Lib.indexByte s.data.toList c < 0
    · have hm1 : Lib.indexByte s.data.toList c = -1 := by have := Lib.indexByte_ge s.data.toList c; omega
      rw [splitB_none c _ hm1] at hx
      have Hx := Lib.hid hx
      obtain ⟨fn, tmps, assign, body, hy, hR⟩ := hY pre s.data.toList wr hJw ⟨[], Hx.out⟩
      have hst : (⟨s.data.toList.toArray⟩ : ByteArray) = s := rfl
      rw [hst] at hy
      clear hst hx
      gi_wp2_with fail
      refine ⟨trivial, ?_⟩
      refine (callsIn_wide.2 (Tryz.strings_Index_one s c _)).mono ?_
      rintro e w' ⟨rfl, rfl⟩
      rw [hm1]
      gi_wp2
      refine hR.mono ?_
      rintro e W3 (⟨rfl, hJ3, _⟩ | ⟨rfl, hJx3⟩)
      · gi_wp2
        go_end0
        exact ⟨⟨_, rfl⟩, .inl ⟨_, Hx.out.symm, hJ3⟩⟩
      · gi_wp2
        go_end0
        exact ⟨⟨_, rfl⟩, .inr ⟨_, ⟨[], by rw [Hx.out]; simp⟩, hJx3⟩⟩
    · obtain ⟨i, hi⟩ := Int.eq_ofNat_of_zero_le (show 0 ≤ Lib.indexByte s.data.toList c by omega)
      obtain ⟨hlt, hsp⟩ := splitB_some c _ i hi
      rw [hsp] at hx
      have hlt' : i < s.size := hlt
      obtain ⟨fn, tmps, assign, body, hy, hR⟩ := hY pre (s.data.toList.take i) wr hJw ⟨_, hx⟩
      rw [take_extract] at hy
      have Hi := Lib.hid hi
      have Hx := Lib.hid hx
      clear hx hi hsp hneg hlt
      gi_wp2_with fail
      refine ⟨trivial, ?_⟩
      refine (callsIn_wide.2 (Tryz.strings_Index_one s c _)).mono ?_
      rintro e w' ⟨rfl, rfl⟩
      rw [Hi.out]
      gi_wp2
      refine hR.mono ?_
      rintro e W3 (⟨rfl, hJ3, hk3⟩ | ⟨rfl, hJx3⟩)
      · have c1 : W3.cell? ⟨bs, 0, none⟩ = some (.string s) := (World.cell?_of_block (hk3 bs (.inl rfl))).trans cs
        have c2 : W3.frozen? ⟨bs, 0, none⟩ = false := (World.frozen?_of_block (hk3 bs (.inl rfl))).trans cf
        have c3 : W3.cell? ⟨bp, 0, none⟩ = some (.string ⟨#[c]⟩) := (World.cell?_of_block (hk3 bp (.inr (.inl rfl)))).trans cp
        have c4 : W3.cell? ⟨bv, 0, none⟩ = some (.int .i64 0) := (World.cell?_of_block (hk3 bv (.inr (.inr rfl)))).trans cv
        have d1 : (W3.setCell ⟨bs, 0, none⟩ (.string (s.extract (i + 1) s.size))).cell? ⟨bs, 0, none⟩ = some (.string (s.extract (i + 1) s.size)) := World.cell?_setCell_same' _ _ _ (by rw [c1]; rfl)
        have d2 : (W3.setCell ⟨bs, 0, none⟩ (.string (s.extract (i + 1) s.size))).frozen? ⟨bs, 0, none⟩ = false := by rw [World.frozen?_setCell]; exact c2
        have d3 : (W3.setCell ⟨bs, 0, none⟩ (.string (s.extract (i + 1) s.size))).cell? ⟨bp, 0, none⟩ = some (.string ⟨#[c]⟩) := by
          rw [World.cell?_setCell_other _ _ _ _ (by intro e; injection e with e; exact hne.1 e)]; exact c3
        have d4 : (W3.setCell ⟨bs, 0, none⟩ (.string (s.extract (i + 1) s.size))).cell? ⟨bv, 0, none⟩ = some (.int .i64 0) := by
          rw [World.cell?_setCell_other _ _ _ _ (by intro e; injection e with e; exact hne.2 e)]; exact c4
        have hsr := size_rest s i
        have hJ4 := hJs _ _ (.string (s.extract (i + 1) s.size)) hJ3
        have hx4 : splitB c s0.data.toList = (pre ++ [s.data.toList.take i]) ++ splitB c (s.extract (i + 1) s.size).data.toList := by
          rw [Hx.out, Lib.extract_to_end, List.append_assoc]; rfl
        have hm4 : lenAt (W3.setCell ⟨bs, 0, none⟩ (.string (s.extract (i + 1) s.size))) ⟨bs, 0, none⟩ < lenAt w' ⟨bs, 0, none⟩ := by
          rw [lenAt_of d1, lenAt_of cs, hsr]; omega
        have hle4 : (s.extract (i + 1) s.size).size ≤ s0.size := by rw [hsr]; omega
        have D := Lib.hid (And.intro d1 (And.intro d2 (And.intro d3 (And.intro d4 (And.intro hx4 (And.intro hm4 hle4))))))
        clear d1 d2 d3 d4 hsr hx4 hm4 hle4
        gi_wp2
        obtain ⟨d1, d2, d3, d4, hx4, hm4, hle4⟩ := D.out
        exact ⟨⟨_, _, hx4, hle4, hJ4, d1, d2, d3, d4⟩, hm4⟩
      · gi_wp2
        refine bodyPost_ret (results_none rfl _ _ _) rfl ?_
        exact ⟨⟨_, rfl⟩, .inr ⟨_, ⟨_, by rw [Hx.out, List.append_assoc]; rfl⟩, hJx3⟩⟩
end Go.Proofs.YtjikghndoklajaaGreatDoor
namespace Go.Proofs.YtjikghndoklajaaGreatDoor
open Go.RowKit Go.Shelf

theorem isbuilder_neH {B b c : Nat} {x : Value} {bs : List Value} {W : World} {t : TypeId} (h : Lib.IsBuilder 113 5 B b bs W) (hc : Boxed W c t x) : c ≠ b := by
  rcases h with h | h
  · exact builder_ne h hc
  · exact builder_ne h hc
theorem check_kH (B b : Nat) (bs : List Value) (w : World) (h : Lib.IsBuilder 113 5 B b bs w) :
    Calls Tryz.prog 109 #[.pointer (some ⟨b, 0, none⟩)] w fun e w' => e = .returned (.tuple #[]) ∧ (Lib.BuilderAt 113 5 B b (.pointer (some ⟨b, 0, none⟩)) bs w' ∧ Below B w w' ∧ Lib.OthersKept 5 (some b) w w' ∧ w.heap.size ≤ w'.heap.size) := by
  rcases h with h | h
  · refine (bcheck_fresh b w h.cell0 h.shape h.frozen0).mono ?_
    rintro e w' ⟨rfl, rfl⟩
    exact ⟨rfl, h.used _, (Below.refl B w).setCell (p := ⟨b, 0, none⟩) h.1 _, (Lib.OthersKept.refl _ _ w).setCell ⟨b, 0, none⟩ rfl _, by simp [World.setCell]⟩
  · refine (bcheck_used b w h.cell0).mono ?_
    rintro e w' ⟨rfl, rfl⟩
    exact ⟨rfl, h, Below.refl B _, Lib.OthersKept.refl _ _ _, Nat.le_refl _⟩

set_option maxHeartbeats 2000000 in
set_option maxRecDepth 100000 in
theorem bwrite_kH (B b : Nat) (bs : List Value) (s : ByteArray) (w : World) (h : Lib.IsBuilder 113 5 B b bs w) (hlen : bs.length + s.size ≤ 140737488355328) (hBw : B ≤ w.heap.size) :
    Calls Tryz.prog 74 #[.pointer (some ⟨b, 0, none⟩), .string s] w fun e w' => e = .returned (.tuple #[.int .i64 s.size, .nilIface]) ∧ (Lib.BuilderAt 113 5 B b (.pointer (some ⟨b, 0, none⟩)) (bs ++ Lib.strCells s) w' ∧ Below B w w' ∧ Lib.OthersKept 5 (some b) w w' ∧ w.heap.size ≤ w'.heap.size) := by
  obtain ⟨i0, hi, hz0, hz1, hz2⟩ := info_parts infoByte
  have hck := check_kH B b bs w h
  clear h
  go_enter Tryz.func74, Tryz.ntmps74
  go_wp2_with (go_at_call 109; refine hck.mono ?_)
  rintro e w1 ⟨rfl, h1, hbw1, ho1, hz1w⟩
  obtain ⟨hB, v, hbk, hown, hne⟩ := h1
  have c0 : w1.cell? ⟨b, 0, none⟩ = some (.pointer (some ⟨b, 0, none⟩)) := by rw [Lib.cell_of_heap hbk]; rfl
  have c1 : w1.cell? ⟨b, 1, none⟩ = some v := by rw [Lib.cell_of_heap hbk]; rfl
  clear hck
  go_wp2_with (at_builtin; refine Lib.wpList_append_own_string _ rfl _ _ 96 9 rfl B 5 i0 Tryz.underlying96 Tryz.underlying9 hi hz0 hz1 hz2 _ _ _ rfl hown s rfl ?c3 ?c4 ?c5 ?_)
  case c3 => unfold maxLen; omega
  case c4 => omega
  case c5 => omega
  intro v' w2 hown' hgrow _
  have hlt : b < w1.heap.size := by
    rcases Nat.lt_or_ge b w1.heap.size with h' | h'
    · exact h'
    · simp [Array.getElem?_eq_none h'] at hbk
  have hb2 : w2.heap[b]? = some (.cells #[.pointer (some ⟨b, 0, none⟩), v] 113 (0, 0)) := by
    rw [hgrow.block b hlt (fun e => hne e.symm)]
    exact hbk
  have hoth : Lib.OthersKept 5 (some b) w w2 := ho1.grown hgrow fun g hg => by
    rcases hown.2 with ⟨rfl, _⟩ | ⟨g2, cap, cur, rfl, _, hgb, _⟩
    · cases hg
    · obtain rfl : g2 = g := by simpa [Value.ownBlock] using hg
      exact ⟨_, _, hgb⟩
  have d0 : w2.cell? ⟨b, 0, none⟩ = some (.pointer (some ⟨b, 0, none⟩)) := by rw [Lib.cell_of_heap hb2]; rfl
  have d1 : w2.cell? ⟨b, 1, none⟩ = some v := by rw [Lib.cell_of_heap hb2]; rfl
  have f1 : w2.frozen? ⟨b, 1, none⟩ = false := Lib.frozen_of_heap hb2 1
  have hz := hgrow.size
  obtain ⟨ao, n', cap, rfl⟩ : ∃ ao n' cap, v' = .slice ao n' cap := by
    rcases hown'.2 with ⟨hv, _⟩ | ⟨g, cap, cur, hv, _⟩
    · exact ⟨_, _, _, hv⟩
    · exact ⟨_, _, _, hv⟩
  go_wp2
  go_ret2
  refine ⟨rfl, ?_, ?_, hoth.setCell ⟨b, 1, none⟩ rfl _, by simpa [World.setCell] using Nat.le_trans hz1w hz⟩
  · exact Lib.BuilderAt.put (T := 113) (e := 5) hB hb2 (bs' := bs ++ Lib.strCells s) (by simpa [Lib.strCells_length] using hown') (by decide)
  · exact ((hbw1.grown hgrow (by omega) (fun k hk => (hown.lt k hk).1))).setCell (p := ⟨b, 1, none⟩) hB _

theorem KeptH.below {N b c : Nat} {w w' : World} (hb : Below w.heap.size w w') : KeptH N b c w w' := ⟨hb.size, fun k _ hk _ _ _ _ => (hb.block k (heap_lt hk)).trans hk⟩
def LayPost (B b : Nat) (acc : TextH) (X : ByteArray) (w : World) (e : Ending) (w' : World) : Prop :=
  ∃ C D E, e = .returned (.func (.func 177) #[] #[.pointer (some ⟨E, 0, none⟩), .pointer (some ⟨D, 0, none⟩), .pointer (some ⟨C, 0, none⟩)]) ∧ Lib.BuilderAt 113 5 B b (.pointer (some ⟨b, 0, none⟩)) (Lib.byteCells (acc ++ X.data.toList)) w' ∧
    Boxed w' C 111 (.pointer (some ⟨b, 0, none⟩)) ∧ Boxed w' D 3 (.int .i64 X.size) ∧ Boxed w' E 4 (.bool true) ∧ (w.heap.size ≤ C ∧ w.heap.size ≤ D ∧ w.heap.size ≤ E) ∧ Below B w w' ∧ KeptH b b b w w'

set_option maxRecDepth 100000 in
set_option maxHeartbeats 2000000 in
theorem hlayer_any (B b : Nat) (acc : TextH) (X : ByteArray) (w : World) (h : Lib.IsBuilder 113 5 B b (Lib.byteCells acc) w) (hlen : acc.length + X.size ≤ 1000000000) (hBw : B ≤ w.heap.size) :
    Calls Tryz.prog 157 #[.pointer (some ⟨b, 0, none⟩), .string X] w (LayPost B b acc X w) := by
  have hmf : ∀ (fn : Fn) (first cap : Array Value) (w : World), (Instr.makeFunc fn first cap).run Tryz.prog w = .ok (.func fn first cap) w := fun _ _ _ _ => rfl
  have hE0 := Boxed.new w 111 (.pointer (some ⟨b, 0, none⟩))
  have hb0 := (Below.refl w.heap.size w).alloc (Nat.le_refl _) (.cells #[.pointer (some ⟨b, 0, none⟩)] 111)
  have hz0 : (w.alloc (.cells #[.pointer (some ⟨b, 0, none⟩)] 111)).heap.size = w.heap.size + 1 := by simp
  have hw1 := bwrite_kH B b (Lib.byteCells acc) X (w.alloc (.cells #[.pointer (some ⟨b, 0, none⟩)] 111)) (isbuilder_below h hb0) (by rw [Lib.byteCells_length]; omega) (by omega)
  rw [show Lib.byteCells acc ++ Lib.strCells X = Lib.byteCells (acc ++ X.data.toList) by rw [Lib.byteCells_append]; rfl] at hw1
  have n0 := isbuilder_neH (isbuilder_below h hb0) hE0
  have HE0 := Lib.hid hE0
  have Hb0 := Lib.hid hb0
  have Hz0 := Lib.hid hz0
  clear hE0 hb0 hz0 h
  go_enter Tryz.func157, Tryz.ntmps157
  go_wp2_with (go_at_call 74; refine hw1.mono ?_)
  rintro e w1 ⟨rfl, hbd, hbe, hoth, hsz⟩
  have hC1 := kept_box hoth (by decide) n0 HE0.out
  have hz1 : w.heap.size + 1 ≤ w1.heap.size := by have := Hz0.out; omega
  have HC1 := Lib.hid hC1
  have HB1 := Lib.hid hbd
  have K1 := Lib.hid (KeptH.of (N := b) (c := b) hoth hsz)
  have L1 := Lib.hid hbe
  clear hC1 hbd hoth hsz hbe hw1
  go_wp2
  go_ret
  have z2 := World.size_alloc w1 (.cells #[.int .i64 X.size] 3)
  have q2 : Below w1.heap.size w1 ((w1.alloc (.cells #[.int .i64 X.size] 3)).alloc (.cells #[.bool true] 4)) := ((Below.refl _ _).alloc (Nat.le_refl _) _).alloc (by omega) _
  refine ⟨w.heap.size, w1.heap.size, w1.heap.size + 1, rfl, builder_below HB1.out q2, (HC1.out.alloc _).alloc _, (Boxed.new _ _ _).alloc _, ?_, ⟨Nat.le_refl _, by omega, by omega⟩, ?_, ?_⟩
  · have := Boxed.new (w1.alloc (.cells #[.int .i64 X.size] 3)) 4 (.bool true)
    rw [z2] at this
    exact this
  · exact ((Hb0.out.mono hBw).trans L1.out).trans (q2.mono (by omega))
  · exact ((KeptH.below Hb0.out).trans K1.out).trans (KeptH.below q2)
end Go.Proofs.YtjikghndoklajaaGreatDoor
