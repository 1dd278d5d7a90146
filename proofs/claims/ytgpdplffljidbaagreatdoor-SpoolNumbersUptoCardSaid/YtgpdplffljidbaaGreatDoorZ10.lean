/-
  Texts of this proof, put together: Q4F, Glue, ChR, Bkw, SpA.
-/
import Derived.Lib.Hide
import Derived.Lib.Strings
import Derived.Lib.Walk
import Derived.Test.YtgpdplffljidbaaGreatDoorZ09
import Derived.Test.YtgpdplffljidbaaGreatDoorZ03
import Derived.Test.YtgpdplffljidbaaGreatDoorRows
import Derived.WalkKit
import Derived.RangeFuncBox
import Derived.RangeFuncNested
import Derived.RangeFuncBound
import Derived.RangeFuncFrom
import Derived.RangeFuncLeaves
import Derived.RangeFuncCalls
import Derived.Shelf.Abstract
import Derived.Shelf.RegionOpen
import Derived.OwnWalkIn
import Derived.TacticsInMore
import Derived.LoopNIn
import Derived.LoopIn
import Derived.Test.YtgpdplffljidbaaGreatDoorZ08
namespace Go.Proofs.YtgpdplffljidbaaGreatDoor

end Go.Proofs.YtgpdplffljidbaaGreatDoor
namespace Go.Proofs.YtgpdplffljidbaaGreatDoor

def textQ (l : List UInt8) : ByteArray := ⟨l.toArray⟩
end Go.Proofs.YtgpdplffljidbaaGreatDoor
namespace Go.Proofs.YtgpdplffljidbaaGreatDoor
open Go.RowKit

theorem text_list (a : List UInt8) : (textQ a).toList = a := Lib.toList_data _
def chCells (c : Ch) : List Value := [.string (textQ c.key), .string (textQ c.val), .bool c.gone]
def chsCells (l : List Ch) : List Value := l.flatMap chCells
theorem chs_snoc (l : List Ch) (c : Ch) : chsCells (l ++ [c]) = chsCells l ++ chCells c := by simp [chsCells]
theorem chs_at : ∀ (l : List Ch) (i : Nat) (h : i < l.length), (chsCells l)[i * 3]? = some (.string (textQ l[i].key)) ∧ (chsCells l)[i * 3 + 1]? = some (.string (textQ l[i].val)) ∧ (chsCells l)[i * 3 + 2]? = some (.bool l[i].gone)
  | p :: l, 0, _ => ⟨rfl, rfl, rfl⟩
  | p :: l, i + 1, h => by
    have ih := chs_at l i (by simp at h; omega)
    have e : chsCells (p :: l) = .string (textQ p.key) :: .string (textQ p.val) :: .bool p.gone :: chsCells l := rfl
    rw [e, show (i + 1) * 3 = i * 3 + 1 + 1 + 1 by omega]
    exact ih
def ChsAt (w : World) (B : Nat) (v : Value) (l : List Ch) : Prop :=
  ∃ ao cap, v = .slice ao l.length cap ∧ l.length ≤ cap ∧ cap ≤ maxLen ∧ ∀ i (hi : i < l.length), ∃ g off, ao = some ⟨g, off, none⟩ ∧ g < B ∧
    w.cell? ⟨g, off + i * 3, none⟩ = some (.string (textQ l[i].key)) ∧ w.cell? ⟨g, off + i * 3 + 1, none⟩ = some (.string (textQ l[i].val)) ∧ w.cell? ⟨g, off + i * 3 + 2, none⟩ = some (.bool l[i].gone)
theorem ChsAt.below {w w' : World} {B B' : Nat} {v : Value} {l : List Ch} (h : ChsAt w B v l) (hb : Below B' w w') (hB : B ≤ B') : ChsAt w' B v l := by
  obtain ⟨ao, cap, h1, h2, h3, h4⟩ := h
  refine ⟨ao, cap, h1, h2, h3, fun i hi => ?_⟩
  obtain ⟨g, off, q1, q2, q3, q4, q5⟩ := h4 i hi
  have hc : ∀ j, w'.cell? ⟨g, j, none⟩ = w.cell? ⟨g, j, none⟩ := fun j => hb.cell (p := ⟨g, j, none⟩) (by show g < B'; omega)
  exact ⟨g, off, q1, q2, (hc _).trans q3, (hc _).trans q4, (hc _).trans q5⟩
def printV (l : List Ch) : Value := if l.all (fun c => decide (c.key.length ≤ 65535) && decide (c.val.length ≤ 65535)) = true then .tuple #[.string (textQ (printL l)), .int .i64 0] else .tuple #[.string ⟨#[]⟩, .int .i64 3]
end Go.Proofs.YtgpdplffljidbaaGreatDoor
namespace Go.Proofs.YtgpdplffljidbaaGreatDoor
open Go.RowKit Go.Shelf

attribute [local go_sem] Oper.semAt_some

def revJ (L : List (List UInt8)) : Nat → List (Nat × List UInt8)
  | 0 => []
  | j + 1 => (j, L.getD j []) :: revJ L j
theorem revJ_mem (L : List (List UInt8)) : ∀ (j : Nat) (x : Nat × List UInt8), x ∈ revJ L j → x.1 < j ∧ x.2 = L.getD x.1 []
  | 0, _, h => by cases h
  | j + 1, x, h => by
    rcases List.mem_cons.1 h with rfl | h
    · exact ⟨Nat.lt_succ_self _, rfl⟩
    · have := revJ_mem L j x h
      exact ⟨by omega, this.2⟩

set_option maxRecDepth 100000 in
theorem backw_any (ao : Option Addr) (n cap : Nat) (w : World) : Calls Tryz.prog 86 #[.slice ao n cap] w fun e w' =>
    e = .returned (.func (.func 113) #[] #[.pointer (some ⟨w.heap.size, 0, none⟩)]) ∧ w' = w.alloc (.cells #[.slice ao n cap] 113) := by
  have hmf : ∀ (fn : Fn) (first cap : Array Value) (w : World), (Instr.makeFunc fn first cap).run Tryz.prog w = .ok (.func fn first cap) w := fun _ _ _ _ => rfl
  go_enter Tryz.func86, Tryz.ntmps86
  go_wp2
  go_ret
  exact ⟨rfl, rfl⟩

set_option maxRecDepth 100000 in
set_option maxHeartbeats 2000000 in
theorem back_in (n : Nat) (hn : 1 ≤ n) (l bs g cap : Nat) (L : List (List UInt8)) (hL : L.length ≤ 1000000) (J Jx : List (Nat × List UInt8) → World → Prop)
    (hY : ∀ pre x W, J pre W → (∃ rest, revJ L L.length = pre ++ x :: rest) → YieldAt Fence.wide (n - 1) Tryz.prog l #[.int .i64 (x.1 : Int), .string (textQ x.2)] W fun e W' =>
      (e = .returned (.bool true) ∧ J (pre ++ [x]) W' ∧ W'.heap[bs]? = W.heap[bs]? ∧ W'.heap[g]? = W.heap[g]?) ∨ (e = .returned (.bool false) ∧ Jx (pre ++ [x]) W'))
    (W : World) (hs : W.cell? ⟨bs, 0, none⟩ = some (.slice (some ⟨g, 0, none⟩) L.length cap)) (hg : ∀ j, j < L.length → W.cell? ⟨g, j, none⟩ = some (.string (textQ (L.getD j [])))) (h0 : J [] W) :
    CallsIn Fence.wide n Tryz.prog 113 #[.func (.yield l) #[] #[], .pointer (some ⟨bs, 0, none⟩)] W fun e W' => (∃ v, e = .returned v) ∧
      ((∃ ys, ys = revJ L L.length ∧ J ys W') ∨ (∃ pre, (∃ rest, revJ L L.length = pre ++ rest) ∧ Jx pre W')) := by
  obtain ⟨m, hm⟩ : ∃ m, L.length = m := ⟨_, rfl⟩
  rw [hm] at hL hY hs hg ⊢
  clear hm
  refine callsIn_of_wp Tryz.func113 rfl trivial ?_ rfl
  simp only [Tryz.ntmps113, List.size_toArray, List.length_cons, List.length_nil, Nat.reduceAdd, Nat.reduceSub, Array.replicate_succ, Array.replicate_zero, List.push_toArray, List.append_toArray, List.nil_append, List.cons_append]
  gi_wp2
  gi_loopw [3] (fun av wr => ∃ (j : Nat) (pre : List (Nat × List UInt8)), j ≤ m ∧ av = .int .i64 ((j : Int) - 1) ∧ revJ L m = pre ++ revJ L j ∧ J pre wr ∧ wr.cell? ⟨bs, 0, none⟩ = some (.slice (some ⟨g, 0, none⟩) m cap) ∧ Hid (∀ j, j < m → wr.cell? ⟨g, j, none⟩ = some (.string (textQ (L.getD j []))))) (fun av _ => (intOf av + 1).toNat)
  case atStart => exact ⟨m, [], Nat.le_refl _, rfl, rfl, h0, hs, Lib.hid hg⟩
  case round =>
    obtain ⟨j, pre, hj, rfl, hx, hJw, hc, hgc⟩ := hrel
    match j, hj, hx with
    | 0, hj, hx =>
      rw [revJ, List.append_nil] at hx
      have Hx := Lib.hid hx
      clear hx hg
      gi_wp2
      go_end0
      exact ⟨⟨_, rfl⟩, .inl ⟨_, Hx.out.symm, hJw⟩⟩
    | i + 1, hj, hx =>
      rw [revJ] at hx
      have ci := hgc.out i (by omega)
      obtain ⟨X, hX⟩ : ∃ X, L.getD i [] = X := ⟨_, rfl⟩
      rw [hX] at ci hx
      obtain ⟨fn, tmps, assign, body, hy, hR⟩ := hY pre (i, X) wr hJw ⟨_, hx⟩
      have Hx := Lib.hid hx
      clear hx hX hg
      gi_wp2
      --@a
      refine hR.mono ?_
      rintro e W3 (⟨rfl, hJ3, hk3, hk4⟩ | ⟨rfl, hJx3⟩)
      · have c1 : W3.cell? ⟨bs, 0, none⟩ = some (.slice (some ⟨g, 0, none⟩) m cap) := (World.cell?_of_block hk3).trans hc
        have c2 : Hid (∀ j, j < m → W3.cell? ⟨g, j, none⟩ = some (.string (textQ (L.getD j [])))) := Lib.hid fun j hj => (World.cell?_of_block hk4).trans (hgc.out j hj)
        gi_wp2
        exact ⟨⟨i, _, by omega, by go_num, by rw [Hx.out, List.append_assoc]; rfl, hJ3, c1, c2⟩, by simp [intOf]⟩
      · gi_wp2
        refine bodyPost_ret (results_none rfl _ _ _) rfl ?_
        exact ⟨⟨_, rfl⟩, .inr ⟨_, ⟨_, by rw [Hx.out, List.append_assoc]; rfl⟩, hJx3⟩⟩
end Go.Proofs.YtgpdplffljidbaaGreatDoor
namespace Go.Proofs.YtgpdplffljidbaaGreatDoor
open Go.RowKit

abbrev itemW (i : Int) (f o x : ByteArray) (b t d : Int) : Value := .agg #[.int .i64 i, .string f, .string o, .string x, .int .i64 b, .int .i64 t, .int .i64 d]
def itemV (x : ItemS) : Value := itemW x.id (textQ x.fr) (textQ x.to) (textQ x.tx) x.b x.t x.d
def ItAt (w : World) (B : Nat) (i : Int) (f o x : ByteArray) (b t d : Int) : Prop := w.heap[B]? = some (.cells #[.int .i64 i, .string f, .string o, .string x, .int .i64 b, .int .i64 t, .int .i64 d] 44 (0, 0))
section
variable {w w' : World} {B : Nat} {i : Int} {f o x : ByteArray} {b t d : Int}
theorem ItAt.lt (h : ItAt w B i f o x b t d) : B < w.heap.size := (Array.getElem?_eq_some_iff.1 h).1
theorem ItAt.cells (h : ItAt w B i f o x b t d) : w.cell? ⟨B, 0, none⟩ = some (.int .i64 i) ∧ w.cell? ⟨B, 1, none⟩ = some (.string f) ∧ w.cell? ⟨B, 2, none⟩ = some (.string o) ∧ w.cell? ⟨B, 3, none⟩ = some (.string x) ∧ w.cell? ⟨B, 4, none⟩ = some (.int .i64 b) ∧ w.cell? ⟨B, 5, none⟩ = some (.int .i64 t) ∧ w.cell? ⟨B, 6, none⟩ = some (.int .i64 d) ∧
    w.frozen? ⟨B, 0, none⟩ = false ∧ w.frozen? ⟨B, 1, none⟩ = false ∧ w.frozen? ⟨B, 2, none⟩ = false ∧ w.frozen? ⟨B, 3, none⟩ = false ∧ w.frozen? ⟨B, 4, none⟩ = false ∧ w.frozen? ⟨B, 5, none⟩ = false ∧ w.frozen? ⟨B, 6, none⟩ = false :=
  ⟨Lib.cell_of_heap h 0, Lib.cell_of_heap h 1, Lib.cell_of_heap h 2, Lib.cell_of_heap h 3, Lib.cell_of_heap h 4, Lib.cell_of_heap h 5, Lib.cell_of_heap h 6, Lib.frozen_of_heap h 0, Lib.frozen_of_heap h 1, Lib.frozen_of_heap h 2, Lib.frozen_of_heap h 3, Lib.frozen_of_heap h 4, Lib.frozen_of_heap h 5, Lib.frozen_of_heap h 6⟩
theorem ItAt.below (h : ItAt w B i f o x b t d) (hb : Below w.heap.size w w') : ItAt w' B i f o x b t d := (hb.block _ h.lt).trans h
theorem it_new (w : World) (i : Int) (f o x : ByteArray) (b t d : Int) : ItAt (w.alloc (.cells #[.int .i64 i, .string f, .string o, .string x, .int .i64 b, .int .i64 t, .int .i64 d] 44)) w.heap.size i f o x b t d := heap_alloc_new w _
end

set_option maxRecDepth 100000 in
set_option maxHeartbeats 1000000 in
theorem sright_w (i : Int) (f o x : ByteArray) (b t d : Int) (w : World) : Calls Tryz.prog 24 #[itemW i f o x b t d] w fun e w' => e = .returned (.bool (decide ((f.size : Int) ≤ 255) && (decide ((o.size : Int) ≤ 255) && (decide ((x.size : Int) ≤ 16384) && rightT b t d)))) ∧ Below w.heap.size w w' := by
  obtain ⟨w1, hw1⟩ : ∃ w1, w.alloc (.cells #[.int .i64 i, .string f, .string o, .string x, .int .i64 b, .int .i64 t, .int .i64 d] 44) = w1 := ⟨_, rfl⟩
  have b1 : Below w.heap.size w w1 := by rw [← hw1]; exact (Below.refl _ _).alloc (Nat.le_refl _) _
  have p1 : ItAt w1 w.heap.size i f o x b t d := by rw [← hw1]; exact it_new w _ _ _ _ _ _ _
  obtain ⟨y0, y1, y2, y3, y4, y5, y6, _⟩ := p1.cells
  have hr := rright_any b t d w1
  obtain ⟨p, hp⟩ : ∃ p, rightT b t d = p := ⟨_, rfl⟩
  rw [hp] at hr ⊢
  have B1 := Lib.hid b1
  clear hp b1 p1
  by_cases h1 : (f.size : Int) ≤ 255
  · rw [decide_eq_true h1]
    by_cases h2 : (o.size : Int) ≤ 255
    · rw [decide_eq_true h2]
      by_cases h3 : (x.size : Int) ≤ 16384
      · rw [decide_eq_true h3]
        go_enter Tryz.func24, Tryz.ntmps24
        go_wp2_with fail
        refine hr.mono ?_
        rintro e w2 ⟨rfl, hb⟩
        have Fin := Lib.hid (B1.out.trans (hb.mono B1.out.size))
        clear hr hb y0 y1 y2 y3 y4 y5 y6
        cases p
        · go_wp2
          go_ret
          exact ⟨rfl, Fin.out⟩
        · go_wp2
          go_ret
          exact ⟨rfl, Fin.out⟩
      · rw [decide_eq_false h3]
        clear hr
        go_enter Tryz.func24, Tryz.ntmps24
        go_wp2
        go_ret
        exact ⟨rfl, B1.out⟩
    · rw [decide_eq_false h2]
      clear hr
      go_enter Tryz.func24, Tryz.ntmps24
      go_wp2
      go_ret
      exact ⟨rfl, B1.out⟩
  · rw [decide_eq_false h1]
    clear hr
    go_enter Tryz.func24, Tryz.ntmps24
    go_wp2
    go_ret
    exact ⟨rfl, B1.out⟩
theorem sright_any (x : ItemS) (w : World) : Calls Tryz.prog 24 #[itemV x] w fun e w' => e = .returned (.bool (rightS x)) ∧ Below w.heap.size w w' := by
  have h := sright_w x.id (textQ x.fr) (textQ x.to) (textQ x.tx) x.b x.t x.d w
  have e : ∀ (s : List UInt8) (n : Nat), decide (((textQ s).size : Int) ≤ (n : Int)) = decide (s.length ≤ n) := fun s n => by
    rw [show (textQ s).size = s.length from rfl]
    by_cases h : s.length ≤ n
    · rw [decide_eq_true h, decide_eq_true (by omega)]
    · rw [decide_eq_false h, decide_eq_false (by omega)]
  have e1 := e x.fr 255
  have e2 := e x.to 255
  have e3 := e x.tx 16384
  unfold rightS
  rw [← e1, ← e2, ← e3]
  exact h
end Go.Proofs.YtgpdplffljidbaaGreatDoor
