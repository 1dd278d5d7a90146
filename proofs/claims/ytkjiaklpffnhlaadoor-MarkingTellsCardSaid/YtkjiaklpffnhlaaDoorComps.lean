/-
  What lattice.parseComps comes to at any text and any finder of names: told by a plain function on the text's pieces.
-/
import Derived.Test.YtkjiaklpffnhlaaDoorSplit
import Derived.Test.YtkjiaklpffnhlaaDoorRange
import Derived.RangeFuncBox
import Derived.RangeFuncNested
import Derived.RangeFuncBound
namespace Go.Proofs.YtkjiaklpffnhlaaDoor
open Go.RowKit Go.Shelf

attribute [local go_sem] Oper.semAt_some

/-- A finder of names: the function g, with what it captured at p, answers f's number of a name, or none, and changes nothing, in whatever world lies as w below B. -/
def Finds (g : Nat) (p : Addr) (B : Nat) (w : World) (f : ByteArray → Option Nat) : Prop :=
  ∀ (W : World) (s : ByteArray), Below B w W → s.size ≤ maxLen → Calls Tryd.prog g #[.string s, .pointer (some p)] W fun e W' => e = .returned (.tuple #[.int .i64 (((f s).getD 0 : Nat) : Int), .bool (f s).isSome]) ∧ W = W'

def orBit (a : Int) (b : Nat) : Int := bits .or .u64 a (IntKind.u64.wrap (2 ^ b))
def compStep (f : ByteArray → Option Nat) (acc : Option Int) (p : List UInt8) : Option Int :=
  match acc with
  | none => none
  | some a => match f ⟨p.toArray⟩ with
    | none => none
    | some b => if a / 2 ^ b = 0 then some (orBit a b) else none
def compsF (f : ByteArray → Option Nat) (ps : List (List UInt8)) : Option Int := ps.foldl (compStep f) (some 0)

set_option maxRecDepth 100000 in
theorem splitSeq_any (s sep : ByteArray) (w : World) : Calls Tryd.prog 69 #[.string s, .string sep] w fun e w' =>
    e = .returned (.func (.func 86) #[] #[.pointer (some ⟨w.heap.size + 1, 0, none⟩), .pointer (some ⟨w.heap.size, 0, none⟩), .pointer (some ⟨w.heap.size + 1 + 1, 0, none⟩)]) ∧
    w' = ((w.alloc (.cells #[.string s] 9)).alloc (.cells #[.string sep] 9)).alloc (.cells #[.int .i64 0] 3) := by
  have hmf : ∀ (fn : Fn) (first cap : Array Value) (w : World), (Instr.makeFunc fn first cap).run Tryd.prog w = .ok (.func fn first cap) w := fun _ _ _ _ => rfl
  go_enter Tryd.func69, Tryd.ntmps69
  go_wp2
  go_ret
  exact ⟨rfl, rfl⟩

theorem compsF_snoc (f : ByteArray → Option Nat) (ps : List (List UInt8)) (p : List UInt8) : compsF f (ps ++ [p]) = compStep f (compsF f ps) p := by simp [compsF]
theorem compsF_dead (f : ByteArray → Option Nat) (ps : List (List UInt8)) (h : compsF f ps = none) : ∀ rs, compsF f (ps ++ rs) = none := by
  intro rs
  unfold compsF at h ⊢
  rw [List.foldl_append, h]
  induction rs with
  | nil => rfl
  | cons r rs ih => exact ih

theorem boxed_own' {W W' : World} {row : Option Nat} {B : Nat} {t : TypeId} {v : Value} (h : Boxed W B t v) (hg : W.grownBy W' row) (hr : ∀ r, row = some r → ∃ o : Obj, W.heap[r]? = some o ∧ o.isCells = false) : Boxed W' B t v :=
  h.kept hg fun e => by
    obtain ⟨o, ho, hc⟩ := hr B e.symm
    rw [show W.heap[B]? = _ from h] at ho
    cases ho
    cases hc

/-- What lies in parseComps's own boxes between two rounds. -/
def CompsI (f : ByteArray → Option Nat) (fv : Value) (H : Nat) (w : World) (pre : List (List UInt8)) (W : World) : Prop :=
  (∃ a, compsF f pre = some a ∧ Boxed W (H + 1 + 1 + 1) 25 (.int .u64 a)) ∧ Boxed W H 61 fv ∧ Boxed W (H + 1) 25 (.int .u64 0) ∧ Boxed W (H + 1 + 1) 4 (.bool false) ∧ Below H w W
def CompsX (f : ByteArray → Option Nat) (H : Nat) (w : World) (c : Code) (pre : List (List UInt8)) (W : World) : Prop :=
  c = .ret ∧ compsF f pre = none ∧ Boxed W (H + 1) 25 (.int .u64 0) ∧ Boxed W (H + 1 + 1) 4 (.bool false) ∧ Below H w W
def CompsK (H : Nat) (A B : World) : Prop := ∀ b, H + 4 ≤ b → b < H + 7 → B.heap[b]? = A.heap[b]?

theorem CompsI.own {f : ByteArray → Option Nat} {fv : Value} {H N : Nat} {w : World} (hw : w.heap.size = H) (hN : H ≤ N) : OwnFrom N (CompsI f fv H w) := by
  rintro pre W W' row ⟨⟨a, ha, b0⟩, b1, b2, b3, hb⟩ hg hr
  have hr' : ∀ r, row = some r → ∃ o : Obj, W.heap[r]? = some o ∧ o.isCells = false := fun r e => (hr r e).2
  exact ⟨⟨a, ha, boxed_own' b0 hg hr'⟩, boxed_own' b1 hg hr', boxed_own' b2 hg hr', boxed_own' b3 hg hr', hb.grown hg (by have := hb.size; omega) fun k e => by have := (hr k e).1; omega⟩
theorem CompsX.own {f : ByteArray → Option Nat} {H N : Nat} {w : World} (hw : w.heap.size = H) (hN : H ≤ N) (c : Code) : OwnFrom N (CompsX f H w c) := by
  rintro pre W W' row ⟨hc, ha, b2, b3, hb⟩ hg hr
  have hr' : ∀ r, row = some r → ∃ o : Obj, W.heap[r]? = some o ∧ o.isCells = false := fun r e => (hr r e).2
  exact ⟨hc, ha, boxed_own' b2 hg hr', boxed_own' b3 hg hr', hb.grown hg (by have := hb.size; omega) fun k e => by have := (hr k e).1; omega⟩
theorem CompsI.store {f : ByteArray → Option Nat} {fv : Value} {H : Nat} {w : World} (pre : List (List UInt8)) (A : World) (v : Value) : CompsI f fv H w pre A → CompsI f fv H w pre (A.setCell ⟨H + 1 + 1 + 1 + 1, 0, none⟩ v) := by
  rintro ⟨⟨a, ha, b0⟩, b1, b2, b3, hb⟩
  exact ⟨⟨a, ha, b0.other (by omega) v⟩, b1.other (by omega) v, b2.other (by omega) v, b3.other (by omega) v, hb.setCell (p := ⟨H + 1 + 1 + 1 + 1, 0, none⟩) (by simp; omega) v⟩

set_option maxRecDepth 100000 in
set_option maxHeartbeats 2000000 in
theorem comps_any (g B : Nat) (p : Addr) (f : ByteArray → Option Nat) (s : ByteArray) (w : World) (hs : s.size ≤ maxLen) (eg : ∀ args w, (callFunc g args).run Tryd.prog w = .ok (.enter g args) w) (hB : B ≤ w.heap.size) (hf : Finds g p B w f) (hf64 : ∀ s b, f s = some b → b < 64) :
    Calls Tryd.prog 55 #[.string s, .func (.func g) #[] #[.pointer (some p)]] w fun e w' =>
      e = .returned (.tuple #[.int .u64 ((compsF f (splitB 47 s.data.toList)).getD 0), .bool (compsF f (splitB 47 s.data.toList)).isSome]) ∧ Below w.heap.size w w' := by
  refine (callsIn_wide (n := 8)).1 ?_
  refine callsIn_of_wp_marks Tryd.func55 rfl trivial ?_ rfl
  simp only [Tryd.ntmps55, List.size_toArray, List.length_cons, List.length_nil, Nat.reduceAdd, Nat.reduceSub, Array.replicate_succ, Array.replicate_zero, List.push_toArray, List.append_toArray, List.nil_append, List.cons_append]
  gi_wp2_with fail
  refine ⟨trivial, ?_⟩
  refine (callsIn_wide.2 (splitSeq_any s _ _)).mono ?_
  rintro e w1 ⟨rfl, rfl⟩
  gi_wp2
  obtain ⟨w1, hw1⟩ : ∃ w1, ((((((w.alloc (.cells #[.func (.func g) #[] #[.pointer (some p)]] 61)).alloc (.cells #[.int .u64 0] 25)).alloc (.cells #[.bool false] 4)).alloc (.cells #[.int .u64 0] 25)).alloc (.cells #[.string s] 9)).alloc (.cells #[.string ⟨#[47]⟩] 9)).alloc (.cells #[.int .i64 0] 3) = w1 := ⟨_, rfl⟩
  rw [hw1]
  have hz1 : w1.heap.size = w.heap.size + 7 := by rw [← hw1]; simp
  have hbw : Below w.heap.size w w1 := by
    rw [← hw1]
    exact (((((((Below.refl _ _).alloc (Nat.le_refl _) _).alloc (by simp) _).alloc (by simp; omega) _).alloc (by simp; omega) _).alloc (by simp; omega) _).alloc (by simp; omega) _).alloc (by simp; omega) _
  have x0 : Boxed w1 w.heap.size 61 (.func (.func g) #[] #[.pointer (some p)]) := by rw [← hw1]; exact ((((((Boxed.new _ _ _).alloc _).alloc _).alloc _).alloc _).alloc _).alloc _
  have x1 : Boxed w1 (w.heap.size + 1) 25 (.int .u64 0) := by
    rw [← hw1]
    have := Boxed.new (w.alloc (.cells #[.func (.func g) #[] #[.pointer (some p)]] 61)) 25 (.int .u64 0)
    rw [World.size_alloc] at this
    exact ((((this.alloc _).alloc _).alloc _).alloc _).alloc _
  have x2 : Boxed w1 (w.heap.size + 1 + 1) 4 (.bool false) := by
    rw [← hw1]
    have := Boxed.new ((w.alloc (.cells #[.func (.func g) #[] #[.pointer (some p)]] 61)).alloc (.cells #[.int .u64 0] 25)) 4 (.bool false)
    rw [World.size_alloc, World.size_alloc] at this
    exact (((this.alloc _).alloc _).alloc _).alloc _
  have x3 : Boxed w1 (w.heap.size + 1 + 1 + 1) 25 (.int .u64 0) := by
    rw [← hw1]
    have := Boxed.new (((w.alloc (.cells #[.func (.func g) #[] #[.pointer (some p)]] 61)).alloc (.cells #[.int .u64 0] 25)).alloc (.cells #[.bool false] 4)) 25 (.int .u64 0)
    rw [World.size_alloc, World.size_alloc, World.size_alloc] at this
    exact ((this.alloc _).alloc _).alloc _
  have x4 : Boxed w1 (w.heap.size + 1 + 1 + 1 + 1) 9 (.string s) := by
    rw [← hw1]
    have := Boxed.new ((((w.alloc (.cells #[.func (.func g) #[] #[.pointer (some p)]] 61)).alloc (.cells #[.int .u64 0] 25)).alloc (.cells #[.bool false] 4)).alloc (.cells #[.int .u64 0] 25)) 9 (.string s)
    rw [World.size_alloc, World.size_alloc, World.size_alloc, World.size_alloc] at this
    exact (this.alloc _).alloc _
  have x5 : Boxed w1 (w.heap.size + 1 + 1 + 1 + 1 + 1) 9 (.string ⟨#[47]⟩) := by
    rw [← hw1]
    have := Boxed.new (((((w.alloc (.cells #[.func (.func g) #[] #[.pointer (some p)]] 61)).alloc (.cells #[.int .u64 0] 25)).alloc (.cells #[.bool false] 4)).alloc (.cells #[.int .u64 0] 25)).alloc (.cells #[.string s] 9)) 9 (.string ⟨#[47]⟩)
    rw [World.size_alloc, World.size_alloc, World.size_alloc, World.size_alloc, World.size_alloc] at this
    exact this.alloc _
  have x6 : Boxed w1 (w.heap.size + 1 + 1 + 1 + 1 + 1 + 1) 3 (.int .i64 0) := by
    rw [← hw1]
    have := Boxed.new ((((((w.alloc (.cells #[.func (.func g) #[] #[.pointer (some p)]] 61)).alloc (.cells #[.int .u64 0] 25)).alloc (.cells #[.bool false] 4)).alloc (.cells #[.int .u64 0] 25)).alloc (.cells #[.string s] 9)).alloc (.cells #[.string ⟨#[47]⟩] 9)) 3 (.int .i64 0)
    rw [World.size_alloc, World.size_alloc, World.size_alloc, World.size_alloc, World.size_alloc, World.size_alloc] at this
    exact this
  clear hw1
  refine range_cell (n := 8) (by omega) (gf := 86) (lb := #[.pointer (some ⟨w.heap.size + 1 + 1 + 1 + 1 + 1, 0, none⟩), .pointer (some ⟨w.heap.size + 1 + 1 + 1 + 1, 0, none⟩), .pointer (some ⟨w.heap.size + 1 + 1 + 1 + 1 + 1 + 1, 0, none⟩)]) rfl (enters_of Tryd.func86 (by kernel_rfl) rfl)
    (encs := fun x : List UInt8 => #[.string ⟨x.toArray⟩]) (R := fun x => x.length ≤ s.size) (K := CompsK w.heap.size) (S := fun ys => ys = splitB 47 s.data.toList) (Sp := fun pre => ∃ rest, splitB 47 s.data.toList = pre ++ rest) (bs := w.heap.size + 1 + 1 + 1 + 1) (by omega) ?seq
    (fun h k b h1 h2 => (k b h1 h2).trans (h b h1 h2)) (fun W l o' hl b h1 h2 => World.putObj_heap_other (by omega)) (fun _ => rfl)
    (CompsI f (.func (.func g) #[] #[.pointer (some p)]) w.heap.size w) (CompsX f w.heap.size w) (CompsI.own rfl (by omega)) CompsI.store (CompsX.own rfl (by omega)) ⟨⟨0, rfl, x3⟩, x0, x1, x2, hbw⟩
    (fun x => { tmps := #[.string s, .func (.func g) #[] #[.pointer (some p)], undef, .pointer (some ⟨w.heap.size, 0, none⟩), .pointer (some ⟨w.heap.size + 1, 0, none⟩), .pointer (some ⟨w.heap.size + 1 + 1, 0, none⟩), .pointer (some ⟨w.heap.size + 1 + 1 + 1, 0, none⟩), .string ⟨x.toArray⟩, undef, undef, .string s,
      .func (.func 86) #[] #[.pointer (some ⟨w.heap.size + 1 + 1 + 1 + 1 + 1, 0, none⟩), .pointer (some ⟨w.heap.size + 1 + 1 + 1 + 1, 0, none⟩), .pointer (some ⟨w.heap.size + 1 + 1 + 1 + 1 + 1 + 1, 0, none⟩)], .string ⟨x.toArray⟩,
      undef, undef, undef, undef, undef, undef, undef, undef, undef, undef, undef, undef, undef, undef, undef, undef, undef, undef, undef], defers := [] }) ?assign ?body ?done ?stop
  case seq =>
    intro l J Jx W hW hJs hY h0
    refine split_in 7 (by omega) l (w.heap.size + 1 + 1 + 1 + 1) (w.heap.size + 1 + 1 + 1 + 1 + 1) (w.heap.size + 1 + 1 + 1 + 1 + 1 + 1) (by omega) 47 s J Jx hJs ?_ W
      ((hW.cell (p := ⟨w.heap.size + 1 + 1 + 1 + 1, 0, none⟩) (by simp; omega)).trans x4.cell) ((hW.frozen (p := ⟨w.heap.size + 1 + 1 + 1 + 1, 0, none⟩) (by simp; omega)).trans x4.frozen)
      ((hW.cell (p := ⟨w.heap.size + 1 + 1 + 1 + 1 + 1, 0, none⟩) (by simp; omega)).trans x5.cell) ((hW.cell (p := ⟨w.heap.size + 1 + 1 + 1 + 1 + 1 + 1, 0, none⟩) (by simp; omega)).trans x6.cell) hs h0
    intro pre x W1 hj hx
    refine YieldAt.mono (hY pre x W1 hj hx) ?_
    rintro e W' (⟨he, hj', hk⟩ | h)
    · exact .inl ⟨he, hj', fun b hb => hk b (by omega) (by omega)⟩
    · exact .inr h
  case assign =>
    intro l x W C hC
    gi_wp2
    exact hC
  case body =>
    rintro l pre x W ⟨⟨a, ha, b0⟩, b1, b2, b3, hb⟩ hx
    have c0 := b0.cell
    have c1 := b1.cell
    have f0 := b0.frozen
    have hfx := hf W ⟨x.toArray⟩ (hb.mono hB) (Nat.le_trans hx hs)
    have hsn := compsF_snoc f pre x
    rw [ha] at hsn
    cases hfv : f ⟨x.toArray⟩ with
    | none =>
      have hx1 : compsF f (pre ++ [x]) = none := by rw [hsn]; simp [compStep, hfv]
      simp only [hfv, Option.getD_none, Option.isSome_none] at hfx
      have c2 := b2.cell
      have c3 := b3.cell
      have f2 := b2.frozen
      have f3 := b3.frozen
      have Hx1 := Lib.hid hx1
      clear hx1 hsn ha hfv
      gi_wp2_with fail
      refine ⟨trivial, ?_⟩
      refine (CallsIn.inRound l (callsIn_wide.2 hfx)).mono ?_
      rintro e W' ⟨rfl, rfl⟩
      gi_wp2
      exact ⟨(KeepsOthers.setCell _ _ _).trans (KeepsOthers.setCell _ _ _), rfl, Hx1.out, (b2.set _).other (by omega) _, (b3.other (by omega) _).set _, (hb.setCell (p := ⟨w.heap.size + 1, 0, none⟩) (by simp) _).setCell (p := ⟨w.heap.size + 1 + 1, 0, none⟩) (by simp; omega) _⟩
    | some b =>
      have hb64 := hf64 _ _ hfv
      simp only [hfv, Option.getD_some, Option.isSome_some] at hfx
      by_cases hz : a / 2 ^ b = 0
      · have hx1 : compsF f (pre ++ [x]) = some (orBit a b) := by rw [hsn]; simp [compStep, hfv, hz]
        have Hx1 := Lib.hid hx1
        clear hx1 hsn ha hfv
        gi_wp2_with fail
        refine ⟨trivial, ?_⟩
        refine (CallsIn.inRound l (callsIn_wide.2 hfx)).mono ?_
        rintro e W' ⟨rfl, rfl⟩
        have hmx : Tryd.prog.follows .mixedOrders = true := by kernel_rfl
        gi_wp2
        gi_region_with_o (fail)
        all_goals gi_wp2
        all_goals
          refine ⟨(KeepsOthers.setCell _ _ _).trans (KeepsOthers.drew _), fun k h1 h2 => heap_setCell_ne W _ (by omega), ⟨_, Hx1.out, b0.set _⟩, b1.other (by omega) _, b2.other (by omega) _, b3.other (by omega) _, ?_⟩
          exact (hb.setCell (p := ⟨w.heap.size + 1 + 1 + 1, 0, none⟩) (by simp; omega) _).drew
      · have hx1 : compsF f (pre ++ [x]) = none := by rw [hsn]; simp [compStep, hfv, hz]
        have c2 := b2.cell
        have c3 := b3.cell
        have f2 := b2.frozen
        have f3 := b3.frozen
        have Hx1 := Lib.hid hx1
        clear hx1 hsn ha hfv
        gi_wp2_with fail
        refine ⟨trivial, ?_⟩
        refine (CallsIn.inRound l (callsIn_wide.2 hfx)).mono ?_
        rintro e W' ⟨rfl, rfl⟩
        gi_wp2
        exact ⟨(KeepsOthers.setCell _ _ _).trans (KeepsOthers.setCell _ _ _), rfl, Hx1.out, (b2.set _).other (by omega) _, (b3.other (by omega) _).set _, (hb.setCell (p := ⟨w.heap.size + 1, 0, none⟩) (by simp) _).setCell (p := ⟨w.heap.size + 1 + 1, 0, none⟩) (by simp; omega) _⟩
  case done =>
    rintro D ys W hD rfl ⟨⟨a, ha, b0⟩, b1, b2, b3, hb⟩ hK
    have c0 := b0.cell
    have c2 := b2.cell
    have c3 := b3.cell
    have f2 := b2.frozen
    have f3 := b3.frozen
    have Ha := Lib.hid ha
    clear ha
    gi_wp2
    have hK' := ((KeepsOthers.setCell W ⟨w.heap.size + 1, 0, none⟩ (.int .u64 a)).trans (KeepsOthers.setCell _ ⟨w.heap.size + 1 + 1, 0, none⟩ (.bool true))).same D _ hK rfl
    have e2 := boxed_own' ((b2.set (.int .u64 a)).other (B' := w.heap.size + 1 + 1) (by omega) (.bool true)) (grownBy_putObj' _ D (.deferred none)) (fun r e => by cases e; exact ⟨_, hK', rfl⟩)
    have e3 := boxed_own' ((b3.other (B' := w.heap.size + 1) (by omega) (.int .u64 a)).set (.bool true)) (grownBy_putObj' _ D (.deferred none)) (fun r e => by cases e; exact ⟨_, hK', rfl⟩)
    have k2 := e2.cell
    have k3 := e3.cell
    refine ⟨by simp, .inl ⟨_, _, rfl, run_takeDeferred hK', ?_⟩⟩
    refine ⟨.tuple #[.int .u64 a, .bool true], by simp [results, Tryd.f55, go_sem, k2, k3], by rw [Ha.out]; rfl, ?_⟩
    exact ((hb.setCell (p := ⟨w.heap.size + 1, 0, none⟩) (by simp) _).setCell (p := ⟨w.heap.size + 1 + 1, 0, none⟩) (by simp; omega) _).trans (belowK_b (w := w) (Nat.le_refl _) _ D _ _ (by omega) hK' rfl rfl)
  case stop =>
    rintro D c pre W hD ⟨rest, hr⟩ ⟨rfl, hn, b2, b3, hb⟩ hK
    have hfin : compsF f (splitB 47 s.data.toList) = none := by rw [hr]; exact compsF_dead f pre hn rest
    have Hfin := Lib.hid hfin
    clear hfin hn hr
    gi_wp2
    refine ⟨by simp, .inl ⟨_, _, rfl, run_takeDeferred hK, ?_⟩⟩
    have e2 := boxed_own' b2 (grownBy_putObj' W D (.deferred none)) (fun r e => by cases e; exact ⟨_, hK, rfl⟩)
    have e3 := boxed_own' b3 (grownBy_putObj' W D (.deferred none)) (fun r e => by cases e; exact ⟨_, hK, rfl⟩)
    have k2 := e2.cell
    have k3 := e3.cell
    refine ⟨.tuple #[.int .u64 0, .bool false], by simp [results, Tryd.f55, go_sem, k2, k3], by rw [Hfin.out]; rfl, ?_⟩
    exact hb.trans (belowK_b (w := w) (Nat.le_refl _) W D _ _ (by omega) hK rfl rfl)
end Go.Proofs.YtkjiaklpffnhlaaDoor
