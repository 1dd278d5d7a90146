/-
  What header.layer comes to: what a field begins with is laid, and a closure that lays its words.
-/
import Derived.Test.YtidlpdiephlkhaaGreatDoorZ14
import Derived.Test.YtidlpdiephlkhaaGreatDoorZW5I
import Derived.Test.YtidlpdiephlkhaaGreatDoorZ24
namespace Go.Proofs.YtidlpdiephlkhaaGreatDoor
open Go.RowKit Go.Shelf

theorem isbuilder_neH {B b c : Nat} {x : Value} {bs : List Value} {W : World} {t : TypeId} (h : Lib.IsBuilder 69 5 B b bs W) (hc : Boxed W c t x) : c ≠ b := by
  rcases h with h | h
  · exact builder_ne h hc
  · exact builder_ne h hc
theorem isbuilder_grownH {B b : Nat} {bs : List Value} {W W' : World} {row : Option Nat} (h : Lib.IsBuilder 69 5 B b bs W) (hg : W.grownBy W' row) (hr : ∀ r, row = some r → ∃ o : Obj, W.heap[r]? = some o ∧ o.isCells = false) : Lib.IsBuilder 69 5 B b bs W' := by
  rcases h with h | h
  · exact .inl (builder_grown h hg hr)
  · exact .inr (builder_grown h hg hr)
theorem isbuilder_boxH {B b c : Nat} {bs : List Value} {W : World} {t : TypeId} (ht : t ≠ 5) (v : Value) (h : Lib.IsBuilder 69 5 B b bs W) (hc : ∃ x, Boxed W c t x) : Lib.IsBuilder 69 5 B b bs (W.setCell ⟨c, 0, none⟩ v) := by
  rcases h with h | h
  · exact .inl (builder_box ht v h hc)
  · exact .inr (builder_box ht v h hc)
theorem check_kH (B b : Nat) (bs : List Value) (w : World) (h : Lib.IsBuilder 69 5 B b bs w) :
    Calls Tryz.prog 71 #[.pointer (some ⟨b, 0, none⟩)] w fun e w' => e = .returned (.tuple #[]) ∧ (Lib.BuilderAt 69 5 B b (.pointer (some ⟨b, 0, none⟩)) bs w' ∧ Below B w w' ∧ Lib.OthersKept 5 (some b) w w' ∧ w.heap.size ≤ w'.heap.size) := by
  rcases h with h | h
  · refine (bcheck_fresh b w h.cell0 h.shape h.frozen0).mono ?_
    rintro e w' ⟨rfl, rfl⟩
    exact ⟨rfl, h.used _, (Below.refl B w).setCell (p := ⟨b, 0, none⟩) h.1 _, (Lib.OthersKept.refl _ _ w).setCell ⟨b, 0, none⟩ rfl _, by simp [World.setCell]⟩
  · refine (bcheck_used b w h.cell0).mono ?_
    rintro e w' ⟨rfl, rfl⟩
    exact ⟨rfl, h, Below.refl B _, Lib.OthersKept.refl _ _ _, Nat.le_refl _⟩

set_option maxHeartbeats 2000000 in
set_option maxRecDepth 100000 in
theorem bwrite_kH (B b : Nat) (bs : List Value) (s : ByteArray) (w : World) (h : Lib.IsBuilder 69 5 B b bs w) (hlen : bs.length + s.size ≤ 140737488355328) (hBw : B ≤ w.heap.size) :
    Calls Tryz.prog 47 #[.pointer (some ⟨b, 0, none⟩), .string s] w fun e w' => e = .returned (.tuple #[.int .i64 s.size, .nilIface]) ∧ (Lib.BuilderAt 69 5 B b (.pointer (some ⟨b, 0, none⟩)) (bs ++ Lib.strCells s) w' ∧ Below B w w' ∧ Lib.OthersKept 5 (some b) w w' ∧ w.heap.size ≤ w'.heap.size) := by
  obtain ⟨i0, hi, hz0, hz1, hz2⟩ := info_parts infoByte
  have hck := check_kH B b bs w h
  clear h
  go_enter Tryz.func47, Tryz.ntmps47
  go_wp2_with (go_at_call 71; refine hck.mono ?_)
  rintro e w1 ⟨rfl, h1, hbw1, ho1, hz1w⟩
  obtain ⟨hB, v, hbk, hown, hne⟩ := h1
  have c0 : w1.cell? ⟨b, 0, none⟩ = some (.pointer (some ⟨b, 0, none⟩)) := by rw [Lib.cell_of_heap hbk]; rfl
  have c1 : w1.cell? ⟨b, 1, none⟩ = some v := by rw [Lib.cell_of_heap hbk]; rfl
  clear hck
  go_wp2_with (at_builtin; refine Lib.wpList_append_own_string _ rfl _ _ 67 9 rfl B 5 i0 Tryz.underlying67 Tryz.underlying9 hi hz0 hz1 hz2 _ _ _ rfl hown s rfl ?c3 ?c4 ?c5 ?_)
  case c3 => unfold maxLen; omega
  case c4 => omega
  case c5 => omega
  intro v' w2 hown' hgrow _
  have hlt : b < w1.heap.size := by
    rcases Nat.lt_or_ge b w1.heap.size with h' | h'
    · exact h'
    · simp [Array.getElem?_eq_none h'] at hbk
  have hb2 : w2.heap[b]? = some (.cells #[.pointer (some ⟨b, 0, none⟩), v] 69 (0, 0)) := by
    rw [hgrow.block b hlt (fun e => hne e.symm)]
    exact hbk
  have hoth : Lib.OthersKept 5 (some b) w w2 := ho1.grown hgrow fun g hg => by
    rcases hown.2 with ⟨rfl, _⟩ | ⟨g2, cap, cur, rfl, _, hgb, _⟩
    · cases hg
    · obtain rfl : g2 = g := by simpa [Value.ownBlock] using hg
      exact ⟨_, _, hgb⟩
  have d0 : w2.cell? ⟨b, 0, none⟩ = some (.pointer (some ⟨b, 0, none⟩)) := by rw [Lib.cell_of_heap hb2]; rfl
  have d1 : w2.cell? ⟨b, 1, none⟩ = some v := by rw [Lib.cell_of_heap hb2]; rfl
  have f1 : w2.frozen? ⟨b, 1, none⟩ = false := Lib.frozen_of_heap hb2 1
  have hz := hgrow.size
  obtain ⟨ao, n', cap, rfl⟩ : ∃ ao n' cap, v' = .slice ao n' cap := by
    rcases hown'.2 with ⟨hv, _⟩ | ⟨g, cap, cur, hv, _⟩
    · exact ⟨_, _, _, hv⟩
    · exact ⟨_, _, _, hv⟩
  go_wp2
  go_ret2
  refine ⟨rfl, ?_, ?_, hoth.setCell ⟨b, 1, none⟩ rfl _, by simpa [World.setCell] using Nat.le_trans hz1w hz⟩
  · exact Lib.BuilderAt.put (T := 69) (e := 5) hB hb2 (bs' := bs ++ Lib.strCells s) (by simpa [Lib.strCells_length] using hown') (by decide)
  · exact ((hbw1.grown hgrow (by omega) (fun k hk => (hown.lt k hk).1))).setCell (p := ⟨b, 1, none⟩) hB _

theorem KeptH.below {N b c : Nat} {w w' : World} (hb : Below w.heap.size w w') : KeptH N b c w w' := ⟨hb.size, fun k _ hk _ _ _ _ => (hb.block k (heap_lt hk)).trans hk⟩
/-- What header.layer hands back. -/
def LayPost (B b : Nat) (acc : TextH) (X : ByteArray) (w : World) (e : Ending) (w' : World) : Prop :=
  ∃ C D E, e = .returned (.func (.func 110) #[] #[.pointer (some ⟨E, 0, none⟩), .pointer (some ⟨D, 0, none⟩), .pointer (some ⟨C, 0, none⟩)]) ∧ Lib.BuilderAt 69 5 B b (.pointer (some ⟨b, 0, none⟩)) (Lib.byteCells (acc ++ X.data.toList)) w' ∧
    Boxed w' C 66 (.pointer (some ⟨b, 0, none⟩)) ∧ Boxed w' D 3 (.int .i64 X.size) ∧ Boxed w' E 4 (.bool true) ∧ (w.heap.size ≤ C ∧ w.heap.size ≤ D ∧ w.heap.size ≤ E) ∧ Below B w w' ∧ KeptH b b b w w'

set_option maxRecDepth 100000 in
set_option maxHeartbeats 2000000 in
theorem hlayer_any (B b : Nat) (acc : TextH) (X : ByteArray) (w : World) (h : Lib.IsBuilder 69 5 B b (Lib.byteCells acc) w) (hlen : acc.length + X.size ≤ 1000000000) (hBw : B ≤ w.heap.size) :
    Calls Tryz.prog 79 #[.pointer (some ⟨b, 0, none⟩), .string X] w (LayPost B b acc X w) := by
  have hmf : ∀ (fn : Fn) (first cap : Array Value) (w : World), (Instr.makeFunc fn first cap).run Tryz.prog w = .ok (.func fn first cap) w := fun _ _ _ _ => rfl
  have hE0 := Boxed.new w 66 (.pointer (some ⟨b, 0, none⟩))
  have hb0 := (Below.refl w.heap.size w).alloc (Nat.le_refl _) (.cells #[.pointer (some ⟨b, 0, none⟩)] 66)
  have hz0 : (w.alloc (.cells #[.pointer (some ⟨b, 0, none⟩)] 66)).heap.size = w.heap.size + 1 := by simp
  have hw1 := bwrite_kH B b (Lib.byteCells acc) X (w.alloc (.cells #[.pointer (some ⟨b, 0, none⟩)] 66)) (isbuilder_below h hb0) (by rw [Lib.byteCells_length]; omega) (by omega)
  rw [show Lib.byteCells acc ++ Lib.strCells X = Lib.byteCells (acc ++ X.data.toList) by rw [Lib.byteCells_append]; rfl] at hw1
  have n0 := isbuilder_neH (isbuilder_below h hb0) hE0
  have HE0 := Lib.hid hE0
  have Hb0 := Lib.hid hb0
  have Hz0 := Lib.hid hz0
  clear hE0 hb0 hz0 h
  go_enter Tryz.func79, Tryz.ntmps79
  go_wp2_with (go_at_call 47; refine hw1.mono ?_)
  rintro e w1 ⟨rfl, hbd, hbe, hoth, hsz⟩
  have hC1 := kept_box hoth (by decide) n0 HE0.out
  have hz1 : w.heap.size + 1 ≤ w1.heap.size := by have := Hz0.out; omega
  have HC1 := Lib.hid hC1
  have HB1 := Lib.hid hbd
  have K1 := Lib.hid (KeptH.of (N := b) (c := b) hoth hsz)
  have L1 := Lib.hid hbe
  clear hC1 hbd hoth hsz hbe hw1
  go_wp2
  go_ret
  have z2 := World.size_alloc w1 (.cells #[.int .i64 X.size] 3)
  have q2 : Below w1.heap.size w1 ((w1.alloc (.cells #[.int .i64 X.size] 3)).alloc (.cells #[.bool true] 4)) := ((Below.refl _ _).alloc (Nat.le_refl _) _).alloc (by omega) _
  refine ⟨w.heap.size, w1.heap.size, w1.heap.size + 1, rfl, builder_below HB1.out q2, (HC1.out.alloc _).alloc _, (Boxed.new _ _ _).alloc _, ?_, ⟨Nat.le_refl _, by omega, by omega⟩, ?_, ?_⟩
  · have := Boxed.new (w1.alloc (.cells #[.int .i64 X.size] 3)) 4 (.bool true)
    rw [z2] at this
    exact this
  · exact ((Hb0.out.mono hBw).trans L1.out).trans (q2.mono (by omega))
  · exact ((KeptH.below Hb0.out).trans K1.out).trans (KeptH.below q2)
end Go.Proofs.YtidlpdiephlkhaaGreatDoor
