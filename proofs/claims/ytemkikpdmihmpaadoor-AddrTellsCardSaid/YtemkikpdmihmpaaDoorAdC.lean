/-
  What addr.isJoined, rightDotted, rightName and Right come to.
-/
import Derived.Test.YtemkikpdmihmpaaDoorAdB
import Derived.Test.YtemkikpdmihmpaaDoorW5I
import Derived.Test.YtemkikpdmihmpaaDoorSplitS
namespace Go.Proofs.YtemkikpdmihmpaaDoor
open Go.RowKit Go.Shelf

attribute [local go_sem] Oper.semAt_some

theorem piece_run (p : UInt8 → Bool) : ∀ x : TextA, pieceA p x = (!((x.takeWhile p).isEmpty) && (x.dropWhile p).isEmpty)
  | [] => rfl
  | c :: r => by
    have h : ∀ r : TextA, r.all p = (r.dropWhile p).isEmpty := by
      intro r
      induction r with
      | nil => rfl
      | cons d r ih =>
        rw [List.all_cons, List.dropWhile_cons]
        cases hd : p d with
        | true => rw [Bool.true_and, ih, if_pos rfl]
        | false => rfl
    unfold pieceA
    rw [h, List.takeWhile_cons, List.dropWhile_cons]
    cases hc : p c <;> simp
theorem piece_in {b : UInt8} {l : TextA} {pre rest : List TextA} {x : TextA} (h : splitB b l = pre ++ x :: rest) : x.length ≤ l.length := by
  have h1 := split_len b l
  rw [h] at h1
  simp at h1
  omega
theorem keeps_below {W W' : World} (hb : Below W.heap.size W W') : KeepsOthers W W' := ⟨hb.size, fun q _ hq _ => (hb.block q (heap_lt hq)).trans hq⟩
theorem text_empty (l : TextA) : (textQ l).toList.isEmpty = l.isEmpty := by
  rw [Lib.toList_data]
  rfl
def JnK (F : Nat) (A B : World) : Prop := ∀ b, F ≤ b → b < F + 3 → B.heap[b]? = A.heap[b]?
/-- What lies in isJoined's own blocks between two rounds. -/
def JnI (g : Nat) (c : UInt8) (p : UInt8 → Bool) (w : World) (pre : List TextA) (W : World) : Prop :=
  pre.all (pieceA p) = true ∧ Boxed W w.heap.size 70 (.func (.func g) #[] #[]) ∧ Boxed W (w.heap.size + 1) 4 (.bool false) ∧
    (∃ x, Boxed W (w.heap.size + 2) 9 x) ∧ Boxed W (w.heap.size + 2 + 1) 9 (.string ⟨#[c]⟩) ∧ Boxed W (w.heap.size + 2 + 1 + 1) 3 (.int .i64 0) ∧ Below w.heap.size w W
def JnX (p : UInt8 → Bool) (w : World) (c : Code) (pre : List TextA) (W : World) : Prop :=
  c = .ret ∧ pre.all (pieceA p) = false ∧ Boxed W (w.heap.size + 1) 4 (.bool false) ∧ Below w.heap.size w W
theorem JnI.own {g : Nat} {c : UInt8} {p : UInt8 → Bool} {w : World} {M : Nat} (hM : w.heap.size ≤ M) : OwnFrom M (JnI g c p w) := by
  rintro pre W W' row ⟨h1, h2, h3, ⟨x, h4⟩, h5, h6, h9⟩ hg hr
  have hr' : ∀ r, row = some r → ∃ o : Obj, W.heap[r]? = some o ∧ o.isCells = false := fun r e => (hr r e).2
  exact ⟨h1, boxed_ownQ h2 hg hr', boxed_ownQ h3 hg hr', ⟨x, boxed_ownQ h4 hg hr'⟩, boxed_ownQ h5 hg hr', boxed_ownQ h6 hg hr', h9.grown hg (by have := h9.size; omega) fun k e => by have := (hr k e).1; omega⟩
theorem JnX.own {p : UInt8 → Bool} {w : World} {M : Nat} (hM : w.heap.size ≤ M) (c : Code) : OwnFrom M (JnX p w c) := by
  rintro pre W W' row ⟨h1, h2, h3, h5⟩ hg hr
  have hr' : ∀ r, row = some r → ∃ o : Obj, W.heap[r]? = some o ∧ o.isCells = false := fun r e => (hr r e).2
  exact ⟨h1, h2, boxed_ownQ h3 hg hr', h5.grown hg (by have := h5.size; omega) fun k e => by have := (hr k e).1; omega⟩
theorem JnI.store {g : Nat} {c : UInt8} {p : UInt8 → Bool} {w : World} (pre : List TextA) (A : World) (v : Value) : JnI g c p w pre A → JnI g c p w pre (A.setCell ⟨w.heap.size + 2, 0, none⟩ v) := by
  rintro ⟨h1, h2, h3, ⟨x, h4⟩, h5, h6, h9⟩
  exact ⟨h1, h2.other (by omega) v, h3.other (by omega) v, ⟨v, h4.set v⟩, h5.other (by omega) v, h6.other (by omega) v, h9.setCell (p := ⟨w.heap.size + 2, 0, none⟩) (by simp) v⟩

set_option maxRecDepth 100000 in
set_option maxHeartbeats 4000000 in
theorem ajoined_any (g : Nat) (eg : ∀ args w, (callFunc g args).run Tryd.prog w = .ok (.enter g args) w) (p : UInt8 → Bool) (hask : ∀ W, AskA g #[] p W) (s : ByteArray) (c : UInt8) (w : World) (hs : s.size ≤ 1000000000) :
    Calls Tryd.prog 43 #[.string s, .string ⟨#[c]⟩, .func (.func g) #[] #[]] w fun e w' => e = .returned (.bool (joinedA c p s.data.toList)) ∧ Below w.heap.size w w' := by
  obtain ⟨w1, hw1⟩ : ∃ w1, (w.alloc (.cells #[.func (.func g) #[] #[]] 70)).alloc (.cells #[.bool false] 4) = w1 := ⟨_, rfl⟩
  have z1 : w1.heap.size = w.heap.size + 2 := by rw [← hw1]; simp
  have b1 : Below w.heap.size w w1 := by
    rw [← hw1]
    exact ((Below.refl _ _).alloc (Nat.le_refl _) _).alloc (by simp) _
  have xf : Boxed w1 w.heap.size 70 (.func (.func g) #[] #[]) := by
    rw [← hw1]
    exact (Boxed.new _ _ _).alloc _
  have xr : Boxed w1 (w.heap.size + 1) 4 (.bool false) := by
    rw [← hw1]
    have := Boxed.new (w.alloc (.cells #[.func (.func g) #[] #[]] 70)) 4 (.bool false)
    rw [World.size_alloc] at this
    exact this
  obtain ⟨L, hL⟩ : ∃ L, joinedA c p s.data.toList = L := ⟨_, rfl⟩
  rw [hL]
  have HL := Lib.hid hL
  clear hL
  refine (callsIn_wide (n := 8)).1 ?_
  refine callsIn_of_wp_marks Tryd.func43 rfl trivial ?_ rfl
  simp only [Tryd.ntmps43, List.size_toArray, List.length_cons, List.length_nil, Nat.reduceAdd, Nat.reduceSub, Array.replicate_succ, Array.replicate_zero, List.push_toArray, List.append_toArray, List.nil_append, List.cons_append]
  gi_wp2_with fail
  refine ⟨trivial, ?_⟩
  refine (callsIn_wide.2 (splitSeq_anyQ s ⟨#[c]⟩ _)).mono ?_
  rintro e w2 ⟨rfl, hw2⟩
  rw [z1]
  have hz2 : w2.heap.size = w.heap.size + 2 + 3 := by rw [hw2]; simp; omega
  have l2 : Below w1.heap.size w1 w2 := by
    rw [hw2]
    exact (((Below.refl _ _).alloc (Nat.le_refl _) _).alloc (by simp) _).alloc (by simp; omega) _
  have x1 : Boxed w2 (w.heap.size + 2) 9 (.string s) := by
    rw [hw2, ← z1]
    exact ((Boxed.new _ _ _).alloc _).alloc _
  have x2 : Boxed w2 (w.heap.size + 2 + 1) 9 (.string ⟨#[c]⟩) := by
    rw [hw2, ← z1]
    have := Boxed.new (w1.alloc (.cells #[.string s] 9)) 9 (.string ⟨#[c]⟩)
    rw [World.size_alloc] at this
    exact this.alloc _
  have x3 : Boxed w2 (w.heap.size + 2 + 1 + 1) 3 (.int .i64 0) := by
    rw [hw2, ← z1]
    have := Boxed.new ((w1.alloc (.cells #[.string s] 9)).alloc (.cells #[.string ⟨#[c]⟩] 9)) 3 (.int .i64 0)
    rw [World.size_alloc, World.size_alloc] at this
    exact this
  have HI : Hid (JnI g c p w [] w2) := Lib.hid ⟨rfl, boxed_below xf l2, boxed_below xr l2, ⟨_, x1⟩, x2, x3, b1.trans (l2.mono (by omega))⟩
  have hbs : w.heap.size + 2 < w2.heap.size := by omega
  have HA := Lib.hid hask
  clear hw2 hw1 xf xr b1 l2 hask
  gi_wp2
  refine range_pre (n := 8) (by omega) (gf := 88) (lb := #[.pointer (some ⟨w.heap.size + 2 + 1, 0, none⟩), .pointer (some ⟨w.heap.size + 2, 0, none⟩), .pointer (some ⟨w.heap.size + 2 + 1 + 1, 0, none⟩)]) rfl (enters_of Tryd.func88 (by kernel_rfl) rfl)
    (encs := fun x : List UInt8 => #[.string ⟨x.toArray⟩]) (R := fun pre x => ∃ rest, splitB c s.data.toList = pre ++ x :: rest) (K := JnK (w.heap.size + 2)) (S := fun ys => ys = splitB c s.data.toList) (Sp := fun pre => ∃ rest, splitB c s.data.toList = pre ++ rest) (bs := w.heap.size + 2) hbs ?seq
    (fun h k b h1 h2 => (k b h1 h2).trans (h b h1 h2)) (fun W l o' hl b h1 h2 => World.putObj_heap_other (by omega)) (fun _ => rfl)
    (JnI g c p w) (JnX p w) (JnI.own (by omega)) JnI.store (JnX.own (by omega)) HI.out
    ?act ?assign ?body ?done ?stop
  case assign =>
    intro l x W C hC
    gi_wp2
    exact hC
  case seq =>
    intro l J Jx W hW hJs hY h0
    refine split_one_in 7 (by omega) l (w.heap.size + 2) (w.heap.size + 2 + 1) (w.heap.size + 2 + 1 + 1) (by omega) c s J Jx hJs ?_ W
      ((hW.cell (p := ⟨w.heap.size + 2, 0, none⟩) (by simp; omega)).trans x1.cell) ((hW.frozen (p := ⟨w.heap.size + 2, 0, none⟩) (by simp; omega)).trans x1.frozen)
      ((hW.cell (p := ⟨w.heap.size + 2 + 1, 0, none⟩) (by simp; omega)).trans x2.cell) ((hW.cell (p := ⟨w.heap.size + 2 + 1 + 1, 0, none⟩) (by simp; omega)).trans x3.cell) (by unfold maxLen; omega) h0
    intro pre x W1 hj hx
    refine YieldAt.mono (hY pre x W1 hj hx) ?_
    rintro e W' (⟨he, hj', hk⟩ | h)
    · exact .inl ⟨he, hj', fun b hb => hk b (by omega) (by omega)⟩
    · exact .inr h
  case body =>
    rintro l pre x W ⟨h1, h2, h3, ⟨y, h4⟩, h5, h6, h9⟩ ⟨rest, hx⟩
    have hlen := piece_in hx
    have hsl : s.data.toList.length = s.size := rfl
    obtain ⟨X1, hX1⟩ : ∃ X1 : ByteArray, (⟨x.toArray⟩ : ByteArray) = X1 := ⟨_, rfl⟩
    have hX1d : X1.data.toList = x := by rw [← hX1]
    have hX1s : X1.size = x.length := by rw [← hX1]; rfl
    have hcall := acutrun_any g #[] eg p X1 W (HA.out W) (by omega)
    rw [hX1d] at hcall
    rw [hX1]
    have c2 := h2.cell
    have hpr := piece_run p x
    obtain ⟨U, hU⟩ : ∃ U, textQ (x.takeWhile p) = U := ⟨_, rfl⟩
    obtain ⟨V, hV⟩ : ∃ V, textQ (x.dropWhile p) = V := ⟨_, rfl⟩
    have eU : (x.takeWhile p).isEmpty = U.toList.isEmpty := by rw [← hU, text_empty]
    have eV : (x.dropWhile p).isEmpty = V.toList.isEmpty := by rw [← hV, text_empty]
    rw [hU, hV] at hcall
    rw [eU, eV] at hpr
    have hall : ∀ b, pieceA p x = b → (pre ++ [x]).all (pieceA p) = b := fun b hb => by rw [List.all_append, h1, List.all_cons, hb]; simp
    clear hU hV eU eV hX1 hX1d hX1s hx
    cases qU : U.toList.isEmpty with
    | true =>
      rw [qU] at hpr
      have Hno := Lib.hid (hall false hpr)
      clear hall hpr
      gi_wp2_with fail
      refine ⟨trivial, ?_⟩
      refine (CallsIn.inRound l (callsIn_wide.2 hcall)).mono ?_
      rintro e2 W2 ⟨rfl, hb2⟩
      have g3 := boxed_below h3 hb2
      have d3 := g3.cell
      have f3 := g3.frozen
      have kb := Lib.hid (keeps_below hb2)
      have B2 := Lib.hid (h9.trans (hb2.mono h9.size))
      clear hcall hb2
      gi_wp2
      exact ⟨kb.out.trans (KeepsOthers.setCell _ _ _), rfl, Hno.out, g3.set _, B2.out.setCell (p := ⟨w.heap.size + 1, 0, none⟩) (by simp) _⟩
    | false =>
      rw [qU] at hpr
      cases qV : V.toList.isEmpty with
      | false =>
        rw [qV] at hpr
        have Hno := Lib.hid (hall false hpr)
        clear hall hpr
        gi_wp2_with fail
        refine ⟨trivial, ?_⟩
        refine (CallsIn.inRound l (callsIn_wide.2 hcall)).mono ?_
        rintro e2 W2 ⟨rfl, hb2⟩
        have g3 := boxed_below h3 hb2
        have d3 := g3.cell
        have f3 := g3.frozen
        have kb := Lib.hid (keeps_below hb2)
        have B2 := Lib.hid (h9.trans (hb2.mono h9.size))
        clear hcall hb2
        gi_wp2
        exact ⟨kb.out.trans (KeepsOthers.setCell _ _ _), rfl, Hno.out, g3.set _, B2.out.setCell (p := ⟨w.heap.size + 1, 0, none⟩) (by simp) _⟩
      | true =>
        rw [qV] at hpr
        have Hyes := Lib.hid (hall true hpr)
        clear hall hpr
        gi_wp2_with fail
        refine ⟨trivial, ?_⟩
        refine (CallsIn.inRound l (callsIn_wide.2 hcall)).mono ?_
        rintro e2 W2 ⟨rfl, hb2⟩
        have g4 := boxed_below h4 hb2
        have g5 := boxed_below h5 hb2
        have g6 := boxed_below h6 hb2
        have kb := Lib.hid (keeps_below hb2)
        have B2 := Lib.hid (h9.trans (hb2.mono h9.size))
        have H2 := Lib.hid hb2
        clear hcall hb2
        gi_wp2
        refine ⟨kb.out, fun q q1 q2 => ?_, ⟨Hyes.out, boxed_below h2 H2.out, boxed_below h3 H2.out, ⟨y, g4⟩, g5, g6, B2.out⟩⟩
        rcases (by omega : q = w.heap.size + 2 ∨ q = w.heap.size + 2 + 1 ∨ q = w.heap.size + 2 + 1 + 1) with rfl | rfl | rfl
        · exact Eq.trans (show W2.heap[w.heap.size + 2]? = _ from g4) (show W.heap[w.heap.size + 2]? = _ from h4).symm
        · exact Eq.trans (show W2.heap[w.heap.size + 2 + 1]? = _ from g5) (show W.heap[w.heap.size + 2 + 1]? = _ from h5).symm
        · exact Eq.trans (show W2.heap[w.heap.size + 2 + 1 + 1]? = _ from g6) (show W.heap[w.heap.size + 2 + 1 + 1]? = _ from h6).symm
  case done =>
    rintro Dd ys W hD rfl ⟨h1, h2, h3, h4, h5, h6, h9⟩ hK
    have d3 := h3.cell
    have f3 := h3.frozen
    obtain rfl : true = L := (show joinedA c p s.data.toList = true from h1).symm.trans HL.out
    have hK2 := (KeepsOthers.setCell W ⟨w.heap.size + 1, 0, none⟩ (.bool true)).same Dd _ hK rfl
    gi_wp2
    have e7 := boxed_ownQ (h3.set (.bool true)) (grownBy_putObj' _ Dd (.deferred none)) (fun r e => by cases e; exact ⟨_, hK2, rfl⟩)
    have k7 := e7.cell
    refine ⟨by simp, .inl ⟨_, _, rfl, run_takeDeferred hK2, ?_⟩⟩
    refine ⟨.bool true, by simp [results, Tryd.f43, go_sem, k7], rfl, ?_⟩
    exact (h9.setCell (p := ⟨w.heap.size + 1, 0, none⟩) (by simp) _).trans (belowK_b (w := w) (Nat.le_refl _) _ Dd _ _ (by omega) hK2 rfl rfl)
  case stop =>
    rintro Dd c' pre W hD ⟨rest, hr⟩ ⟨rfl, hn, h7, h9⟩ hK
    have hJ : joinedA c p s.data.toList = false := by
      unfold joinedA
      rw [hr, List.all_append, hn]
      rfl
    obtain rfl : false = L := hJ.symm.trans HL.out
    gi_wp2
    refine ⟨by simp, .inl ⟨_, _, rfl, run_takeDeferred hK, ?_⟩⟩
    have e7 := boxed_ownQ h7 (grownBy_putObj' W Dd (.deferred none)) (fun r e => by cases e; exact ⟨_, hK, rfl⟩)
    have k7 := e7.cell
    refine ⟨.bool false, by simp [results, Tryd.f43, go_sem, k7], rfl, ?_⟩
    exact h9.trans (belowK_b (w := w) (Nat.le_refl _) W Dd _ _ (by omega) hK rfl rfl)
end Go.Proofs.YtemkikpdmihmpaaDoor
