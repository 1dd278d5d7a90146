/-
  Texts of this proof, put together: BuildK, Kept, ByteK, L64.
-/
import Derived.Test.YtjikghndoklajaaGreatDoorZ10
import Derived.Lib.OthersKept
import Derived.RangeFuncBox
import Derived.RangeFuncNested
import Derived.RangeFuncBound
import Derived.RangeFuncFrom
import Derived.RangeFuncLeaves
import Derived.RangeFuncCalls
import Derived.Shelf.Abstract
import Derived.Shelf.RegionOpen
import Derived.OwnWalkIn
import Derived.TacticsInMore
import Derived.LoopNIn
import Derived.LoopIn
import Derived.Lib.Hide
namespace Go.Proofs.YtjikghndoklajaaGreatDoor
open Go.RowKit

set_option maxHeartbeats 2000000 in
set_option maxRecDepth 100000 in
theorem bwrite_k (B b : Nat) (bs : List Value) (s : ByteArray) (w : World) (h : Lib.BuilderAt 113 5 B b (.pointer (some ⟨b, 0, none⟩)) bs w) (hlen : bs.length + s.size ≤ 140737488355328) (hBw : B ≤ w.heap.size) :
    Calls Tryz.prog 74 #[.pointer (some ⟨b, 0, none⟩), .string s] w fun e w' => e = .returned (.tuple #[.int .i64 s.size, .nilIface]) ∧ (Lib.BuilderAt 113 5 B b (.pointer (some ⟨b, 0, none⟩)) (bs ++ Lib.strCells s) w' ∧ Below B w w' ∧ Lib.OthersKept 5 (some b) w w' ∧ w.heap.size ≤ w'.heap.size) := by
  obtain ⟨i0, hi, hz0, hz1, hz2⟩ := info_parts infoByte
  have hcell0 := h.cell0
  obtain ⟨hB, v, hbk, hown, hne⟩ := h
  have c0 : w.cell? ⟨b, 0, none⟩ = some (.pointer (some ⟨b, 0, none⟩)) := by rw [Lib.cell_of_heap hbk]; rfl
  have c1 : w.cell? ⟨b, 1, none⟩ = some v := by rw [Lib.cell_of_heap hbk]; rfl
  go_enter Tryz.func74, Tryz.ntmps74
  go_wp2_with (go_at_call 109; refine (bcheck_used b _ hcell0).mono ?_)
  rintro e w1 ⟨rfl, hw1⟩
  obtain rfl := hw1.symm
  clear hw1
  go_wp2_with (at_builtin; refine Lib.wpList_append_own_string _ rfl _ _ 96 9 rfl B 5 i0 Tryz.underlying96 Tryz.underlying9 hi hz0 hz1 hz2 _ _ _ rfl hown s rfl ?c3 ?c4 ?c5 ?_)
  case c3 => unfold maxLen; omega
  case c4 => omega
  case c5 => omega
  intro v' w2 hown' hgrow _
  have hlt : b < w.heap.size := by
    rcases Nat.lt_or_ge b w.heap.size with h' | h'
    · exact h'
    · simp [Array.getElem?_eq_none h'] at hbk
  have hb2 : w2.heap[b]? = some (.cells #[.pointer (some ⟨b, 0, none⟩), v] 113 (0, 0)) := by
    rw [hgrow.block b hlt (fun e => hne e.symm)]
    exact hbk
  have hoth : Lib.OthersKept 5 (some b) w w2 := (Lib.OthersKept.refl _ _ w).grown hgrow fun g hg => by
    rcases hown.2 with ⟨rfl, _⟩ | ⟨g2, cap, cur, rfl, _, hgb, _⟩
    · cases hg
    · obtain rfl : g2 = g := by simpa [Value.ownBlock] using hg
      exact ⟨_, _, hgb⟩
  have d0 : w2.cell? ⟨b, 0, none⟩ = some (.pointer (some ⟨b, 0, none⟩)) := by rw [Lib.cell_of_heap hb2]; rfl
  have d1 : w2.cell? ⟨b, 1, none⟩ = some v := by rw [Lib.cell_of_heap hb2]; rfl
  have f1 : w2.frozen? ⟨b, 1, none⟩ = false := Lib.frozen_of_heap hb2 1
  have hz := hgrow.size
  obtain ⟨ao, n', cap, rfl⟩ : ∃ ao n' cap, v' = .slice ao n' cap := by
    rcases hown'.2 with ⟨hv, _⟩ | ⟨g, cap, cur, hv, _⟩
    · exact ⟨_, _, _, hv⟩
    · exact ⟨_, _, _, hv⟩
  go_wp2
  go_ret2
  refine ⟨rfl, ?_, ?_, hoth.setCell ⟨b, 1, none⟩ rfl _, by simpa [World.setCell] using hz⟩
  · exact Lib.BuilderAt.put (T := 113) (e := 5) hB hb2 (bs' := bs ++ Lib.strCells s) (by simpa [Lib.strCells_length] using hown') (by decide)
  · exact (((Below.refl B w).grown hgrow (by omega) (fun k hk => (hown.lt k hk).1))).setCell (p := ⟨b, 1, none⟩) hB _

theorem builder_grown {B b : Nat} {p : Value} {bs : List Value} {W W' : World} {row : Option Nat} (h : Lib.BuilderAt 113 5 B b p bs W) (hg : W.grownBy W' row) (hr : ∀ r, row = some r → ∃ o : Obj, W.heap[r]? = some o ∧ o.isCells = false) : Lib.BuilderAt 113 5 B b p bs W' := by
  obtain ⟨hB, v, hbk, hown, hne⟩ := h
  have hlt : b < W.heap.size := (Array.getElem?_eq_some_iff.1 hbk).1
  refine ⟨hB, v, ?_, hown.kept hg ?_, hne⟩
  · refine (hg.block b hlt fun e => ?_).trans hbk
    obtain ⟨o, ho, hc⟩ := hr b e.symm
    rw [hbk] at ho
    cases ho
    cases hc
  · rcases hown.2 with ⟨rfl, _⟩ | ⟨g, cap, cur, rfl, _, hgb, _⟩
    · exact .inl rfl
    · refine .inr fun e => ?_
      obtain ⟨o, ho, hc⟩ := hr g (by simpa [Value.ownBlock] using e.symm)
      rw [hgb] at ho
      cases ho
      cases hc
theorem builder_other {B b c : Nat} {p : Value} {bs : List Value} {W : World} (v : Value) (h : Lib.BuilderAt 113 5 B b p bs W) (hc : ∃ x, W.heap[c]? = some (.cells #[x] 9 (0, 0))) : Lib.BuilderAt 113 5 B b p bs (W.setCell ⟨c, 0, none⟩ v) := by
  obtain ⟨x, hc⟩ := hc
  obtain ⟨hB, u, hbk, hown, hne⟩ := h
  have hbc : b ≠ c := fun e => by
    rw [e, hc] at hbk
    simp at hbk
  refine ⟨hB, u, (Below.heap_setCell W ⟨c, 0, none⟩ v b hbc).trans hbk, hown.kept (grownBy_setCell' W c v) ?_, hne⟩
  rcases hown.2 with ⟨rfl, _⟩ | ⟨g, cap, cur, rfl, _, hgb, _⟩
  · exact .inl rfl
  · refine .inr fun e => ?_
    have e2 : c = g := by simpa [Value.ownBlock] using e.symm
    rw [← e2, hc] at hgb
    simp at hgb
theorem keeps_of {b : Nat} {W W' : World} (h : Lib.OthersKept 5 (some b) W W') (hb : ∃ cs T fz, W.heap[b]? = some (.cells cs T fz)) (hz : W.heap.size ≤ W'.heap.size) : KeepsOthers W W' :=
  ⟨hz, fun k o hk ho => h k o hk (fun e => by
    obtain ⟨cs, T, fz, hb⟩ := hb
    obtain rfl : k = b := by simpa using e
    rw [hk] at hb
    cases hb
    cases ho) fun c fz e => by subst e; cases ho⟩
end Go.Proofs.YtjikghndoklajaaGreatDoor
namespace Go.Proofs.YtjikghndoklajaaGreatDoor
open Go.RowKit

def KeptBut (b c : Nat) (w w' : World) : Prop := ∀ k o, w.heap[k]? = some o → k ≠ b → k ≠ c → (∀ x fz, o ≠ .cells x 5 fz) → w'.heap[k]? = some o
theorem KeptBut.refl (b c : Nat) (w : World) : KeptBut b c w w := fun _ _ h _ _ _ => h
theorem KeptBut.trans {b c : Nat} {u v w : World} (h : KeptBut b c u v) (k : KeptBut b c v w) : KeptBut b c u w := fun i o hi hb hc ho => k i o (h i o hi hb hc ho) hb hc ho
theorem KeptBut.of {b c : Nat} {w w' : World} (h : Lib.OthersKept 5 (some b) w w') : KeptBut b c w w' := fun k o hk hb _ ho => h k o hk (by simpa using hb) ho
theorem KeptBut.set {b c : Nat} {u w : World} (h : KeptBut b c u w) (v : Value) : KeptBut b c u (w.setCell ⟨c, 0, none⟩ v) := fun k o hk hb hc ho =>
  (Below.heap_setCell w ⟨c, 0, none⟩ v k hc).trans (h k o hk hb hc ho)
theorem KeptBut.box {b c B : Nat} {w w' : World} {t : TypeId} {v : Value} (h : KeptBut b c w w') (ht : t ≠ 5) (hb : B ≠ b) (hc : B ≠ c) (hx : Boxed w B t v) : Boxed w' B t v :=
  h B _ hx hb hc (fun x fz e => by cases e; exact ht rfl)
theorem kept_box {b B : Nat} {w w' : World} {t : TypeId} {v : Value} (h : Lib.OthersKept 5 (some b) w w') (ht : t ≠ 5) (hb : B ≠ b) (hx : Boxed w B t v) : Boxed w' B t v :=
  h B _ hx (by simpa using hb) (fun x fz e => by cases e; exact ht rfl)
theorem builder_box {B b c : Nat} {p : Value} {bs : List Value} {W : World} {t : TypeId} (ht : t ≠ 5) (v : Value) (h : Lib.BuilderAt 113 5 B b p bs W) (hc : ∃ x, Boxed W c t x) : Lib.BuilderAt 113 5 B b p bs (W.setCell ⟨c, 0, none⟩ v) := by
  obtain ⟨x, hc⟩ := hc
  have hc : W.heap[c]? = some (.cells #[x] t (0, 0)) := hc
  obtain ⟨hB, u, hbk, hown, hne⟩ := h
  have hbc : b ≠ c := fun e => by
    rw [e, hc] at hbk
    simp at hbk
  refine ⟨hB, u, (Below.heap_setCell W ⟨c, 0, none⟩ v b hbc).trans hbk, hown.kept (grownBy_setCell' W c v) ?_, hne⟩
  rcases hown.2 with ⟨rfl, _⟩ | ⟨g, cap, cur, rfl, _, hgb, _⟩
  · exact .inl rfl
  · refine .inr fun e => ?_
    have e2 : c = g := by simpa [Value.ownBlock] using e.symm
    rw [← e2, hc] at hgb
    simp at hgb
    exact ht hgb.2
theorem builder_ne {B b c : Nat} {p x : Value} {bs : List Value} {W : World} {t : TypeId} (h : Lib.BuilderAt 113 5 B b p bs W) (hc : Boxed W c t x) : c ≠ b := fun e => by
  obtain ⟨_, v, hb, _⟩ := h
  have hc : W.heap[c]? = some (.cells #[x] t (0, 0)) := hc
  rw [e, hb] at hc
  simp at hc

theorem heap_lt {w : World} {k : Nat} {o : Obj} (h : w.heap[k]? = some o) : k < w.heap.size := (Array.getElem?_eq_some_iff.1 h).1
theorem builder_below {B b : Nat} {p : Value} {bs : List Value} {w w' : World} (h : Lib.BuilderAt 113 5 B b p bs w) (hb : Below w.heap.size w w') : Lib.BuilderAt 113 5 B b p bs w' := by
  obtain ⟨hB, v, hbk, ⟨hl, hown⟩, hne⟩ := h
  refine ⟨hB, v, (hb.block b (heap_lt hbk)).trans hbk, ⟨hl, ?_⟩, hne⟩
  rcases hown with h | ⟨g, cap, cur, hv, hg, hh, r⟩
  · exact .inl h
  · exact .inr ⟨g, cap, cur, hv, hg, (hb.block g (heap_lt hh)).trans hh, r⟩
theorem boxed_below {B : Nat} {t : TypeId} {v : Value} {w w' : World} (h : Boxed w B t v) (hb : Below w.heap.size w w') : Boxed w' B t v := (hb.block B h.lt).trans h
theorem kept_below {b c : Nat} {w w' : World} (hb : Below w.heap.size w w') : KeptBut b c w w' := fun k _ hk _ _ _ => (hb.block k (heap_lt hk)).trans hk
theorem isbuilder_below {B b : Nat} {bs : List Value} {w w' : World} (h : Lib.IsBuilder 113 5 B b bs w) (hb : Below w.heap.size w w') : Lib.IsBuilder 113 5 B b bs w' := by
  rcases h with h | h
  · exact .inl (builder_below h hb)
  · exact .inr (builder_below h hb)
theorem boxed_ownQ {W W' : World} {row : Option Nat} {B : Nat} {t : TypeId} {v : Value} (h : Boxed W B t v) (hg : W.grownBy W' row) (hr : ∀ r, row = some r → ∃ o : Obj, W.heap[r]? = some o ∧ o.isCells = false) : Boxed W' B t v :=
  h.kept hg fun e => by
    obtain ⟨o, ho, hc⟩ := hr B e.symm
    rw [show W.heap[B]? = _ from h] at ho
    cases ho
    cases hc
end Go.Proofs.YtjikghndoklajaaGreatDoor
namespace Go.Proofs.YtjikghndoklajaaGreatDoor
open Go.RowKit

theorem check_kA (B b : Nat) (bs : List Value) (w : World) (h : Lib.IsBuilder 113 5 B b bs w) :
    Calls Tryz.prog 109 #[.pointer (some ⟨b, 0, none⟩)] w fun e w' => e = .returned (.tuple #[]) ∧ (Lib.BuilderAt 113 5 B b (.pointer (some ⟨b, 0, none⟩)) bs w' ∧ Below B w w' ∧ Lib.OthersKept 5 (some b) w w' ∧ w.heap.size ≤ w'.heap.size) := by
  rcases h with h | h
  · refine (bcheck_fresh b w h.cell0 h.shape h.frozen0).mono ?_
    rintro e w' ⟨rfl, rfl⟩
    exact ⟨rfl, h.used _, (Below.refl B w).setCell (p := ⟨b, 0, none⟩) h.1 _, (Lib.OthersKept.refl _ _ w).setCell ⟨b, 0, none⟩ rfl _, by simp [World.setCell]⟩
  · refine (bcheck_used b w h.cell0).mono ?_
    rintro e w' ⟨rfl, rfl⟩
    exact ⟨rfl, h, Below.refl B _, Lib.OthersKept.refl _ _ _, Nat.le_refl _⟩

set_option maxHeartbeats 2000000 in
set_option maxRecDepth 100000 in
theorem wbyte_k (B b : Nat) (l : List UInt8) (c : UInt8) (w : World) (h : Lib.IsBuilder 113 5 B b (Lib.byteCells l) w) (hlen : l.length + 1 ≤ 140737488355328) (hBw : B ≤ w.heap.size) :
    Calls Tryz.prog 123 #[.pointer (some ⟨b, 0, none⟩), .int .u8 (c.toNat : Int)] w fun e w' => e = .returned .nilIface ∧ (Lib.BuilderAt 113 5 B b (.pointer (some ⟨b, 0, none⟩)) (Lib.byteCells (l ++ [c])) w' ∧ Below B w w' ∧ Lib.OthersKept 5 (some b) w w' ∧ w.heap.size ≤ w'.heap.size) := by
  obtain ⟨i0, hi, hz0, hz1, hz2⟩ := info_parts infoByte
  go_enter Tryz.func123, Tryz.ntmps123
  go_wp2_with (go_at_call 109; refine (check_kA B b (Lib.byteCells l) _ h).mono ?_)
  rintro e w1 ⟨rfl, h1, hb1, ho1, hs1⟩
  obtain ⟨hB, v, hbk, hown, hne⟩ := h1
  rw [Lib.byteCells_length] at hown
  have c0 : w1.cell? ⟨b, 0, none⟩ = some (.pointer (some ⟨b, 0, none⟩)) := by rw [Lib.cell_of_heap hbk]; rfl
  have c1 : w1.cell? ⟨b, 1, none⟩ = some v := by rw [Lib.cell_of_heap hbk]; rfl
  have hown2 := hown.alloc (.cells #[.int .u8 (c.toNat : Int)] 5)
  have hbz := hb1.size
  go_wp2_with (at_builtin; refine wpList_append_own _ rfl _ _ 96 rfl B 5 i0 (.int .u8 0) 1 1 Tryz.underlying96 hi hz0 hz1 hz2 rfl (by decide) _ l.length _ rfl hown2 ⟨w1.heap.size, 0, none⟩ 1 1 [.int .u8 (c.toNat : Int)] rfl rfl ?n1 ?n2 ?n3 ?n4 ?n5 ?_)
  case n1 =>
    intro j u hj
    rw [Addr.add_lit]
    have hj0 : j = 0 := by
      rcases Nat.eq_zero_or_pos j with h | h
      · exact h
      · rw [List.getElem?_eq_none (by simp; omega)] at hj
        cases hj
    subst hj0
    simp at hj
    subst hj
    go_simp
  case n2 =>
    intro u hu
    simp at hu
    subst hu
    rfl
  case n3 => unfold maxLen; omega
  case n4 => omega
  case n5 => simp; omega
  intro v' w2 hown' hgrow _
  have hlt : b < w1.heap.size := by
    rcases Nat.lt_or_ge b w1.heap.size with h' | h'
    · exact h'
    · simp [Array.getElem?_eq_none h'] at hbk
  have hb2 : w2.heap[b]? = some (.cells #[.pointer (some ⟨b, 0, none⟩), v] 113 (0, 0)) := by
    rw [hgrow.block b (by simp; omega) (fun e => hne e.symm), Lib.alloc_old _ _ _ hlt]
    exact hbk
  have hoth : Lib.OthersKept 5 (some b) w w2 := (ho1.alloc _).grown hgrow fun g hg => by
    rcases hown2.2 with ⟨rfl, _⟩ | ⟨g2, cap, cur, rfl, _, hgb, _⟩
    · cases hg
    · obtain rfl : g2 = g := by simpa [Value.ownBlock] using hg
      exact ⟨_, _, hgb⟩
  have hzz : w.heap.size ≤ w2.heap.size := by
    have h3 := hgrow.size
    rw [World.size_alloc] at h3
    omega
  have d0 : w2.cell? ⟨b, 0, none⟩ = some (.pointer (some ⟨b, 0, none⟩)) := by rw [Lib.cell_of_heap hb2]; rfl
  have d1 : w2.cell? ⟨b, 1, none⟩ = some v := by rw [Lib.cell_of_heap hb2]; rfl
  have f1 : w2.frozen? ⟨b, 1, none⟩ = false := Lib.frozen_of_heap hb2 1
  obtain ⟨ao, n', cap, rfl⟩ : ∃ ao n' cap, v' = .slice ao n' cap := by
    rcases hown'.2 with ⟨hv, _⟩ | ⟨g, cap, cur, hv, _⟩
    · exact ⟨_, _, _, hv⟩
    · exact ⟨_, _, _, hv⟩
  go_wp2
  go_ret
  refine ⟨rfl, ?_, ?_, hoth.setCell ⟨b, 1, none⟩ rfl _, by simpa [World.setCell] using hzz⟩
  · refine Lib.BuilderAt.put (T := 113) (e := 5) hB hb2 (bs' := Lib.byteCells (l ++ [c])) ?_ (by decide)
    rw [Lib.byteCells_length, List.length_append, Lib.byteCells_append]
    exact hown'
  · exact ((hb1.alloc (by omega) _).grown hgrow (by simp; omega) (fun k hk => (hown2.lt k hk).1)).setCell (p := ⟨b, 1, none⟩) hB _
set_option maxHeartbeats 2000000 in
set_option maxRecDepth 100000 in
theorem bwrite_kA (B b : Nat) (bs : List Value) (s : ByteArray) (w : World) (h : Lib.IsBuilder 113 5 B b bs w) (hlen : bs.length + s.size ≤ 140737488355328) (hBw : B ≤ w.heap.size) :
    Calls Tryz.prog 74 #[.pointer (some ⟨b, 0, none⟩), .string s] w fun e w' => e = .returned (.tuple #[.int .i64 s.size, .nilIface]) ∧ (Lib.BuilderAt 113 5 B b (.pointer (some ⟨b, 0, none⟩)) (bs ++ Lib.strCells s) w' ∧ Below B w w' ∧ Lib.OthersKept 5 (some b) w w' ∧ w.heap.size ≤ w'.heap.size) := by
  obtain ⟨i0, hi, hz0, hz1, hz2⟩ := info_parts infoByte
  have hck := check_kA B b bs w h
  clear h
  go_enter Tryz.func74, Tryz.ntmps74
  go_wp2_with (go_at_call 109; refine hck.mono ?_)
  rintro e w1 ⟨rfl, h1, hbw1, ho1, hz1w⟩
  obtain ⟨hB, v, hbk, hown, hne⟩ := h1
  have c0 : w1.cell? ⟨b, 0, none⟩ = some (.pointer (some ⟨b, 0, none⟩)) := by rw [Lib.cell_of_heap hbk]; rfl
  have c1 : w1.cell? ⟨b, 1, none⟩ = some v := by rw [Lib.cell_of_heap hbk]; rfl
  clear hck
  go_wp2_with (at_builtin; refine Lib.wpList_append_own_string _ rfl _ _ 96 9 rfl B 5 i0 Tryz.underlying96 Tryz.underlying9 hi hz0 hz1 hz2 _ _ _ rfl hown s rfl ?c3 ?c4 ?c5 ?_)
  case c3 => unfold maxLen; omega
  case c4 => omega
  case c5 => omega
  intro v' w2 hown' hgrow _
  have hlt : b < w1.heap.size := by
    rcases Nat.lt_or_ge b w1.heap.size with h' | h'
    · exact h'
    · simp [Array.getElem?_eq_none h'] at hbk
  have hb2 : w2.heap[b]? = some (.cells #[.pointer (some ⟨b, 0, none⟩), v] 113 (0, 0)) := by
    rw [hgrow.block b hlt (fun e => hne e.symm)]
    exact hbk
  have hoth : Lib.OthersKept 5 (some b) w w2 := ho1.grown hgrow fun g hg => by
    rcases hown.2 with ⟨rfl, _⟩ | ⟨g2, cap, cur, rfl, _, hgb, _⟩
    · cases hg
    · obtain rfl : g2 = g := by simpa [Value.ownBlock] using hg
      exact ⟨_, _, hgb⟩
  have d0 : w2.cell? ⟨b, 0, none⟩ = some (.pointer (some ⟨b, 0, none⟩)) := by rw [Lib.cell_of_heap hb2]; rfl
  have d1 : w2.cell? ⟨b, 1, none⟩ = some v := by rw [Lib.cell_of_heap hb2]; rfl
  have f1 : w2.frozen? ⟨b, 1, none⟩ = false := Lib.frozen_of_heap hb2 1
  have hz := hgrow.size
  obtain ⟨ao, n', cap, rfl⟩ : ∃ ao n' cap, v' = .slice ao n' cap := by
    rcases hown'.2 with ⟨hv, _⟩ | ⟨g, cap, cur, hv, _⟩
    · exact ⟨_, _, _, hv⟩
    · exact ⟨_, _, _, hv⟩
  go_wp2
  go_ret2
  refine ⟨rfl, ?_, ?_, hoth.setCell ⟨b, 1, none⟩ rfl _, by simpa [World.setCell] using Nat.le_trans hz1w hz⟩
  · exact Lib.BuilderAt.put (T := 113) (e := 5) hB hb2 (bs' := bs ++ Lib.strCells s) (by simpa [Lib.strCells_length] using hown') (by decide)
  · exact ((hbw1.grown hgrow (by omega) (fun k hk => (hown.lt k hk).1))).setCell (p := ⟨b, 1, none⟩) hB _

end Go.Proofs.YtjikghndoklajaaGreatDoor
namespace Go.Proofs.YtjikghndoklajaaGreatDoor
open Go.RowKit Go.Shelf

attribute [local go_sem] Oper.semAt_some

def chunkB (l : List UInt8) : List (List UInt8) := if _h : l = [] then [] else l.take 76 :: chunkB (l.drop 76)
termination_by l.length
decreasing_by
  have h0 : l ≠ [] := by assumption
  cases l with
  | nil => exact absurd rfl h0
  | cons a l => simp; omega
theorem chunk_nil : chunkB [] = [] := by rw [chunkB]; simp
theorem chunk_cons {l : List UInt8} (h : l ≠ []) : chunkB l = l.take 76 :: chunkB (l.drop 76) := by
  rw [chunkB, dif_neg h]
def lineE (x : List UInt8) : List UInt8 := x ++ [13, 10]
theorem fold_chunk (l : List UInt8) : ∀ n, l.length = n → foldB l = (chunkB l).flatMap lineE := by
  intro n
  induction n using Nat.strongRecOn generalizing l with
  | ind n ih =>
    intro hn
    by_cases h : l = []
    · subst h
      rw [fold_nil, chunk_nil]
      rfl
    · have hp : 0 < l.length := List.length_pos_iff.2 h
      rw [fold_cons h, chunk_cons h, List.flatMap_cons, ← ih (l.drop 76).length (by rw [List.length_drop]; omega) (l.drop 76) rfl]
      unfold lineE
      simp
set_option maxRecDepth 100000 in
theorem lines_any (s : ByteArray) (w : World) : Calls Tryz.prog 220 #[.string s] w fun e w' =>
    e = .returned (.func (.func 222) #[] #[.pointer (some ⟨w.heap.size, 0, none⟩)]) ∧ w' = w.alloc (.cells #[.string s] 9) := by
  have hmf : ∀ (fn : Fn) (first cap : Array Value) (w : World), (Instr.makeFunc fn first cap).run Tryz.prog w = .ok (.func fn first cap) w := fun _ _ _ _ => rfl
  go_enter Tryz.func220, Tryz.ntmps220
  go_wp2
  go_ret
  exact ⟨rfl, rfl⟩

set_option maxRecDepth 100000 in
set_option maxHeartbeats 2000000 in
theorem lines_in (n : Nat) (hn : 1 ≤ n) (l bs : Nat) (s : ByteArray) (J Jx : List (List UInt8) → World → Prop)
    (hY : ∀ pre x W, J pre W → (x.length ≤ 76 ∧ ∃ rest, chunkB s.data.toList = pre ++ x :: rest) → YieldAt Fence.wide (n - 1) Tryz.prog l #[.string ⟨x.toArray⟩] W fun e W' =>
      (e = .returned (.bool true) ∧ J (pre ++ [x]) W' ∧ W'.heap[bs]? = W.heap[bs]?) ∨ (e = .returned (.bool false) ∧ Jx (pre ++ [x]) W'))
    (W : World) (hs : W.cell? ⟨bs, 0, none⟩ = some (.string s)) (hsz : s.size ≤ 1000000000) (h0 : J [] W) :
    CallsIn Fence.wide n Tryz.prog 222 #[.func (.yield l) #[] #[], .pointer (some ⟨bs, 0, none⟩)] W fun e W' => (∃ v, e = .returned v) ∧
      ((∃ ys, ys = chunkB s.data.toList ∧ J ys W') ∨ (∃ pre, (∃ rest, chunkB s.data.toList = pre ++ rest) ∧ Jx pre W')) := by
  have hl : s.data.toList.length = s.size := rfl
  have Hl := Lib.hid hl
  clear hl
  refine callsIn_of_wp Tryz.func222 rfl trivial ?_ rfl
  simp only [Tryz.ntmps222, List.size_toArray, List.length_cons, List.length_nil, Nat.reduceAdd, Nat.reduceSub, Array.replicate_succ, Array.replicate_zero, List.push_toArray, List.append_toArray, List.nil_append, List.cons_append]
  gi_wp2
  gi_loopw [3] (fun av wr => ∃ (q : Nat) (pre : List (List UInt8)), q < s.size + 76 ∧ av = .int .i64 q ∧ chunkB s.data.toList = pre ++ chunkB (s.data.toList.drop q) ∧ J pre wr ∧ wr.cell? ⟨bs, 0, none⟩ = some (.string s)) (fun av _ => s.size + 76 - (intOf av).toNat)
  case atStart => exact ⟨0, [], by omega, rfl, rfl, h0, hs⟩
  case round =>
    obtain ⟨q, pre, hq, rfl, hx, hJw, hc⟩ := hrel
    by_cases hlt : q < s.size
    · have hne : s.data.toList.drop q ≠ [] := fun e => by
        have := List.drop_eq_nil_iff.1 e
        rw [Hl.out] at this
        omega
      have hX : (s.extract q (min ((q : Int) + 76) s.size).toNat).data.toList = (s.data.toList.drop q).take 76 := by
        rw [piece_data]
        rcases (by omega : q + 76 ≤ s.size ∨ s.size < q + 76) with h | h
        · rw [show (min ((q : Int) + 76) s.size).toNat - q = 76 by omega]
        · rw [List.take_of_length_le (by rw [List.length_drop, Hl.out]; omega), List.take_of_length_le (by rw [List.length_drop, Hl.out]; omega)]
      rw [chunk_cons hne, List.drop_drop, ← hX] at hx
      have hxl : (s.extract q (min ((q : Int) + 76) s.size).toNat).data.toList.length ≤ 76 := by rw [hX, List.length_take]; omega
      obtain ⟨fn, tmps, assign, body, hy, hR⟩ := hY pre (s.extract q (min ((q : Int) + 76) s.size).toNat).data.toList wr hJw ⟨hxl, _, hx⟩
      have hst : (⟨(s.extract q (min ((q : Int) + 76) s.size).toNat).data.toList.toArray⟩ : ByteArray) = s.extract q (min ((q : Int) + 76) s.size).toNat := rfl
      rw [hst] at hy
      have Hx := Lib.hid hx
      clear hst hx hX hne hxl
      gi_wp2
      refine hR.mono ?_
      rintro e W3 (⟨rfl, hJ3, hk3⟩ | ⟨rfl, hJx3⟩)
      · have c1 : W3.cell? ⟨bs, 0, none⟩ = some (.string s) := (World.cell?_of_block hk3).trans hc
        gi_wp2
        exact ⟨⟨q + 76, _, by omega, by go_num, by rw [Hx.out, List.append_assoc]; rfl, hJ3, c1⟩, by simp [intOf]; omega⟩
      · gi_wp2
        refine bodyPost_ret (results_none rfl _ _ _) rfl ?_
        exact ⟨⟨_, rfl⟩, .inr ⟨_, ⟨_, by rw [Hx.out, List.append_assoc]; rfl⟩, hJx3⟩⟩
    · have hnil : s.data.toList.drop q = [] := List.drop_eq_nil_of_le (by rw [Hl.out]; omega)
      rw [hnil, chunk_nil, List.append_nil] at hx
      have Hx := Lib.hid hx
      clear hnil hx
      gi_wp2
      go_end0
      exact ⟨⟨_, rfl⟩, .inl ⟨_, Hx.out.symm, hJw⟩⟩
end Go.Proofs.YtjikghndoklajaaGreatDoor
