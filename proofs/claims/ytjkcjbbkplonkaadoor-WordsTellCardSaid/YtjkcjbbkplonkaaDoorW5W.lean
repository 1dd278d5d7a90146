/-
  What words.reader and words.readWords come to: told by the plain functions.
-/
import Derived.Test.YtjkcjbbkplonkaaDoorW5R
import Derived.Test.YtjkcjbbkplonkaaDoorW5I
import Derived.Test.YtjkcjbbkplonkaaDoorSplitS
namespace Go.Proofs.YtjkcjbbkplonkaaDoor
open Go.RowKit Go.Shelf

attribute [local go_sem] Oper.semAt_some

theorem read_len' : ∀ (ps : List (List UInt8)) (b b' : List UInt8) (e e' : Bool), ps.foldl stepW (some (b, e)) = some (b', e') → b'.length ≤ b.length + (ps.map List.length).sum
  | [], b, b', e, e', h => by
    cases h
    simp
  | p :: ps, b, b', e, e', h => by
    rw [List.foldl_cons] at h
    cases hs : stepW (some (b, e)) p with
    | none =>
      rw [hs, foldl_none stepW (fun _ => rfl)] at h
      cases h
    | some be =>
      obtain ⟨b2, e2⟩ := be
      rw [hs] at h
      have ih := read_len' ps b2 b' e2 e' h
      cases e with
      | true => cases hs
      | false =>
        unfold stepW at hs
        cases ho : readOne p with
        | none => simp [ho] at hs
        | some y =>
          simp only [ho, Option.some.injEq, Prod.mk.injEq] at hs
          obtain ⟨hp, _, _⟩ := one_some ho
          have h1 := wordW_ge y
          rw [← hp] at h1
          rw [← hs.1, List.length_append] at ih
          simp only [List.map_cons, List.sum_cons]
          omega
theorem read_snoc (pre : List (List UInt8)) (x : List UInt8) : readW (pre ++ [x]) = stepW (readW pre) x := by
  unfold readW
  rw [List.foldl_append]
  rfl
theorem read_dead (pre rest : List (List UInt8)) (h : readW pre = none) : readW (pre ++ rest) = none := by
  unfold readW at h ⊢
  rw [List.foldl_append, h]
  exact foldl_none stepW (fun _ => rfl) rest
theorem piece_bounds {l : List UInt8} {pre rest : List (List UInt8)} {x acc : List UInt8} {e : Bool} (h : splitB 32 l = pre ++ x :: rest) (hr : readW pre = some (acc, e)) : x.length ≤ l.length ∧ acc.length ≤ l.length := by
  have h1 := split_len 32 l
  have h2 := read_len' pre [] acc false e hr
  rw [h] at h1
  simp only [List.map_append, List.map_cons, List.sum_append, List.sum_cons] at h1
  simp only [List.length_nil, Nat.zero_add] at h2
  omega
theorem box_ne {W : World} {A B : Nat} {t u : TypeId} {x y : Value} (ha : Boxed W A t x) (hb : Boxed W B u y) (h : t ≠ u) : A ≠ B := fun e => by
  have ha : W.heap[A]? = some (.cells #[x] t (0, 0)) := ha
  have hb : W.heap[B]? = some (.cells #[y] u (0, 0)) := hb
  rw [e, hb] at ha
  simp at ha
  exact h ha.2.symm
section
variable {B b N C D E : Nat} {acc : List UInt8} {k : Int} {e : Bool} {W W' : World}
theorem RdPre.own {row : Option Nat} (h : RdPre B b N C D E acc k e W) (hg : W.grownBy W' row) (hr : ∀ r, row = some r → ∃ o : Obj, W.heap[r]? = some o ∧ o.isCells = false) : RdPre B b N C D E acc k e W' := by
  obtain ⟨cs, hcs⟩ := h.cd.held
  have hcs : W.heap[N]? = some (.cells cs 77 (0, 0)) := hcs
  refine ⟨isbuilder_grown h.bd hg hr, h.cd.same (hg.block N (heap_lt hcs) fun e => ?_), boxed_ownQ h.xc hg hr, boxed_ownQ h.xd hg hr, boxed_ownQ h.xe hg hr, h.hN, h.hC, Nat.le_trans h.hB hg.size⟩
  obtain ⟨o, ho, hc⟩ := hr N e.symm
  rw [hcs] at ho
  cases ho
  cases hc
theorem RdPre.store {q : Nat} {x : Value} (h : RdPre B b N C D E acc k e W) (hx : Boxed W q 9 x) (v : Value) : RdPre B b N C D E acc k e (W.setCell ⟨q, 0, none⟩ v) := by
  obtain ⟨cs, hcs⟩ := h.cd.held
  have nq := held_ne_box hcs (by decide) hx
  exact ⟨isbuilder_box (t := 9) (by decide) v h.bd ⟨x, hx⟩, h.cd.same (Below.heap_setCell W ⟨q, 0, none⟩ v N (fun e => nq e.symm)), h.xc.other (box_ne h.xc hx (by decide)) v, h.xd.other (box_ne h.xd hx (by decide)) v, h.xe.other (box_ne h.xe hx (by decide)) v, h.hN, h.hC, by simpa [World.setCell] using h.hB⟩
theorem RdPre.keeps (h : RdPre B b N C D E acc k e W) (hk : Kept3 N b C W W') : KeepsOthers W W' := by
  obtain ⟨cs, hcs⟩ := h.cd.held
  have hcs : W.heap[N]? = some (.cells cs 77 (0, 0)) := hcs
  have hxc : W.heap[C]? = some (.cells #[_] 4 (0, 0)) := h.xc
  have hbc : ∃ cs T fz, W.heap[b]? = some (.cells cs T fz) := by
    rcases h.bd with ⟨_, v, hb, _⟩ | ⟨_, v, hb, _⟩
    · exact ⟨_, _, _, hb⟩
    · exact ⟨_, _, _, hb⟩
  obtain ⟨bs, T, fz, hbc⟩ := hbc
  refine ⟨hk.1, fun q o hq ho => hk.2 q o hq (fun e => ?_) (fun e => ?_) (fun e => ?_) (fun c fz e => by subst e; cases ho)⟩
  · rw [e, hcs] at hq; cases hq; cases ho
  · rw [e, hbc] at hq; cases hq; cases ho
  · rw [e, hxc] at hq; cases hq; cases ho
end

/-- What lies in readWords' own blocks between two rounds. -/
def RwI (B b N C D E F : Nat) (w : World) (pre : List (List UInt8)) (W : World) : Prop :=
  (∃ acc k e, readW pre = some (acc, e) ∧ RdPre B b N C D E acc k e W) ∧ Boxed W F 29 (.func (.func 30) #[] #[.pointer (some ⟨C, 0, none⟩), .pointer (some ⟨D, 0, none⟩), .pointer (some ⟨E, 0, none⟩)]) ∧
    (∃ x, Boxed W (F + 1) 9 x) ∧ Boxed W (F + 1 + 1) 9 (.string ⟨#[32]⟩) ∧ Boxed W (F + 1 + 1 + 1) 3 (.int .i64 0) ∧ Boxed W B 9 (.string ⟨#[]⟩) ∧ Boxed W (B + 1) 4 (.bool false) ∧ Below B w W
def RwX (B : Nat) (w : World) (c : Code) (pre : List (List UInt8)) (W : World) : Prop :=
  c = .ret ∧ readW pre = none ∧ Boxed W B 9 (.string ⟨#[]⟩) ∧ Boxed W (B + 1) 4 (.bool false) ∧ Below B w W
def RwK (F : Nat) (A B : World) : Prop := ∀ b, F < b → b < F + 4 → B.heap[b]? = A.heap[b]?
theorem RwI.own {B b N C D E F M : Nat} {w : World} (hB : B ≤ w.heap.size) (hM : B ≤ M) : OwnFrom M (RwI B b N C D E F w) := by
  rintro pre W W' row ⟨⟨acc, k, e, h1, h2⟩, h3, ⟨x, h4⟩, h5, h6, h7, h8, h9⟩ hg hr
  have hr' : ∀ r, row = some r → ∃ o : Obj, W.heap[r]? = some o ∧ o.isCells = false := fun r e => (hr r e).2
  exact ⟨⟨acc, k, e, h1, h2.own hg hr'⟩, boxed_ownQ h3 hg hr', ⟨x, boxed_ownQ h4 hg hr'⟩, boxed_ownQ h5 hg hr', boxed_ownQ h6 hg hr', boxed_ownQ h7 hg hr', boxed_ownQ h8 hg hr', h9.grown hg (by have := h9.size; omega) fun k e => by have := (hr k e).1; omega⟩
theorem RwX.own {B M : Nat} {w : World} (hB : B ≤ w.heap.size) (hM : B ≤ M) (c : Code) : OwnFrom M (RwX B w c) := by
  rintro pre W W' row ⟨h1, h2, h3, h4, h5⟩ hg hr
  have hr' : ∀ r, row = some r → ∃ o : Obj, W.heap[r]? = some o ∧ o.isCells = false := fun r e => (hr r e).2
  exact ⟨h1, h2, boxed_ownQ h3 hg hr', boxed_ownQ h4 hg hr', h5.grown hg (by have := h5.size; omega) fun k e => by have := (hr k e).1; omega⟩
theorem RwI.store {B b N C D E F : Nat} {w : World} (hF : B + 2 ≤ F) (pre : List (List UInt8)) (A : World) (v : Value) : RwI B b N C D E F w pre A → RwI B b N C D E F w pre (A.setCell ⟨F + 1, 0, none⟩ v) := by
  rintro ⟨⟨acc, k, e, h1, h2⟩, h3, ⟨x, h4⟩, h5, h6, h7, h8, h9⟩
  exact ⟨⟨acc, k, e, h1, h2.store h4 v⟩, h3.other (by omega) v, ⟨v, h4.set v⟩, h5.other (by omega) v, h6.other (by omega) v, h7.other (by omega) v, h8.other (by omega) v, h9.setCell (p := ⟨F + 1, 0, none⟩) (by simp; omega) v⟩

/-- What words.reader hands back. -/
def RdrPost (b : Nat) (w : World) (e : Ending) (w' : World) : Prop :=
  ∃ N C D E, e = .returned (.func (.func 30) #[] #[.pointer (some ⟨C, 0, none⟩), .pointer (some ⟨D, 0, none⟩), .pointer (some ⟨E, 0, none⟩)]) ∧ CoderAt w' N 0 ∧ Boxed w' C 4 (.bool false) ∧ Boxed w' D 53 (.pointer (some ⟨N, 0, none⟩)) ∧
    Boxed w' E 33 (.pointer (some ⟨b, 0, none⟩)) ∧ w.heap.size ≤ N ∧ w.heap.size ≤ C ∧ Below w.heap.size w w'

set_option maxRecDepth 100000 in
set_option maxHeartbeats 2000000 in
theorem wreader_any (b : Nat) (w : World) : Calls Tryd.prog 21 #[.pointer (some ⟨b, 0, none⟩)] w (RdrPost b w) := by
  have hmf : ∀ (fn : Fn) (first cap : Array Value) (w : World), (Instr.makeFunc fn first cap).run Tryd.prog w = .ok (.func fn first cap) w := fun _ _ _ _ => rfl
  have hn := new_any (w.alloc (.cells #[.pointer (some ⟨b, 0, none⟩)] 33))
  have hE0 := Boxed.new w 33 (.pointer (some ⟨b, 0, none⟩))
  have hb0 := (Below.refl w.heap.size w).alloc (Nat.le_refl _) (.cells #[.pointer (some ⟨b, 0, none⟩)] 33)
  have hz0 : (w.alloc (.cells #[.pointer (some ⟨b, 0, none⟩)] 33)).heap.size = w.heap.size + 1 := by simp
  rw [hz0] at hn
  have HE0 := Lib.hid hE0
  have Hb0 := Lib.hid hb0
  have Hz0 := Lib.hid hz0
  clear hE0 hb0 hz0
  go_enter Tryd.func21, Tryd.ntmps21
  go_wp2_with (go_at_call 29; refine hn.mono ?_)
  rintro e w1 ⟨rfl, hc, hb1⟩
  have b1 := Hb0.out.trans (hb1.mono (by omega))
  have hE1 := (hb1.block w.heap.size (by omega)).trans (show _ = _ from HE0.out)
  have HE1 : Hid (Boxed w1 w.heap.size 33 (.pointer (some ⟨b, 0, none⟩))) := Lib.hid hE1
  have HC1 := Lib.hid hc
  clear hc hE1 hn hb1
  go_wp2
  go_ret
  refine ⟨w.heap.size + 1, w1.heap.size + 1, w1.heap.size, w.heap.size, rfl, ?_, ?_, ?_, ?_, by omega, by have := b1.size; omega, (b1.alloc b1.size _).alloc (by have := b1.size; simp; omega) _⟩
  · exact (CoderAt.same (w := w1) (.inl HC1.out) (by
      have h := HC1.out.lt
      exact (Below.heap_alloc _ _ _ (by simp; omega)).trans (Below.heap_alloc _ _ _ (by simpa using h))))
  · have := Boxed.new (w1.alloc (.cells #[.pointer (some ⟨w.heap.size + 1, 0, none⟩)] 53)) 4 (.bool false)
    rw [World.size_alloc] at this
    exact this
  · exact (Boxed.new _ _ _).alloc _
  · exact (HE1.out.alloc _).alloc _
end Go.Proofs.YtjkcjbbkplonkaaDoor
