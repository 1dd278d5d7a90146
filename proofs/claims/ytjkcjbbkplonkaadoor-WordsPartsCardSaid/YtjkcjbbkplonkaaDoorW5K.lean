/-
  What a builder's first or later write leaves as it lay, beside a coder's block and a box.
-/
import Derived.Test.YtjkcjbbkplonkaaDoorKept
import Derived.Test.YtjkcjbbkplonkaaDoorC64
namespace Go.Proofs.YtjkcjbbkplonkaaDoor
open Go.RowKit

/-- All blocks but N, b, c and the bytes' own lie as they lay. -/
def Kept3 (N b c : Nat) (w w' : World) : Prop := w.heap.size ≤ w'.heap.size ∧ ∀ k o, w.heap[k]? = some o → k ≠ N → k ≠ b → k ≠ c → (∀ x fz, o ≠ .cells x 5 fz) → w'.heap[k]? = some o
theorem Kept3.refl (N b c : Nat) (w : World) : Kept3 N b c w w := ⟨Nat.le_refl _, fun _ _ h _ _ _ _ => h⟩
theorem Kept3.trans {N b c : Nat} {u v w : World} (h : Kept3 N b c u v) (k : Kept3 N b c v w) : Kept3 N b c u w := ⟨Nat.le_trans h.1 k.1, fun i o hi hN hb hc ho => k.2 i o (h.2 i o hi hN hb hc ho) hN hb hc ho⟩
theorem Kept3.of {N b c : Nat} {w w' : World} (h : Lib.OthersKept 5 (some b) w w') (hz : w.heap.size ≤ w'.heap.size) : Kept3 N b c w w' := ⟨hz, fun k o hk _ hb _ ho => h k o hk (by simpa using hb) ho⟩
theorem Kept3.set {N b c : Nat} {u w : World} (h : Kept3 N b c u w) (v : Value) : Kept3 N b c u (w.setCell ⟨c, 0, none⟩ v) := ⟨by simpa [World.setCell] using h.1, fun k o hk hN hb hc ho =>
  (Below.heap_setCell w ⟨c, 0, none⟩ v k hc).trans (h.2 k o hk hN hb hc ho)⟩
theorem Kept3.grown {N b c : Nat} {w w' : World} (h : w.grownBy w' (some N)) : Kept3 N b c w w' := ⟨h.size, fun k o hk hN _ _ _ => (h.block k (heap_lt hk) (by simpa using hN)).trans hk⟩
theorem Kept3.box {N b c B : Nat} {w w' : World} {t : TypeId} {v : Value} (h : Kept3 N b c w w') (ht : t ≠ 5) (hN : B ≠ N) (hb : B ≠ b) (hc : B ≠ c) (hx : Boxed w B t v) : Boxed w' B t v :=
  h.2 B _ hx hN hb hc (fun x fz e => by cases e; exact ht rfl)
theorem held_ne_box {w : World} {N C : Nat} {cs : Array Value} {T t : TypeId} {v : Value} (h : Held w N cs T) (ht : t ≠ T) (hC : Boxed w C t v) : C ≠ N := fun e => by
  have hC : w.heap[C]? = some (.cells #[v] t (0, 0)) := hC
  have h : w.heap[N]? = some (.cells cs T (0, 0)) := h
  rw [e, h] at hC
  simp at hC
  exact ht hC.2.symm
theorem coder_ne_box {w : World} {N C : Nat} {d mu k : Int} {f : Nat → Nat} {t : TypeId} {v : Value} (h : CoderIn w N d mu k f) (ht : t ≠ 77) (hC : Boxed w C t v) : C ≠ N := by
  obtain ⟨cs, h, _⟩ := h
  exact held_ne_box h ht hC
theorem CoderIn.same {w w' : World} {N : Nat} {d mu k : Int} {f : Nat → Nat} (h : CoderIn w N d mu k f) (hb : w'.heap[N]? = w.heap[N]?) : CoderIn w' N d mu k f := by
  obtain ⟨cs, h, r⟩ := h
  exact ⟨cs, hb.trans h, r⟩
theorem CoderAt.same {w w' : World} {N : Nat} {k : Int} (h : CoderAt w N k) (hb : w'.heap[N]? = w.heap[N]?) : CoderAt w' N k := by
  rcases h with h | h
  · exact .inl (h.same hb)
  · exact .inr (h.same hb)
theorem CoderAt.held {w : World} {N : Nat} {k : Int} (h : CoderAt w N k) : ∃ cs, Held w N cs 77 := by
  rcases h with ⟨cs, h, _⟩ | ⟨cs, h, _⟩
  · exact ⟨cs, h⟩
  · exact ⟨cs, h⟩
theorem builder_ne_held {B b N : Nat} {p : Value} {bs : List Value} {w : World} {cs : Array Value} {T : TypeId} (h : Lib.BuilderAt 36 5 B b p bs w) (hT : T ≠ 36) (hN : Held w N cs T) : N ≠ b := fun e => by
  obtain ⟨_, v, hb, _⟩ := h
  have hN : w.heap[N]? = some (.cells cs T (0, 0)) := hN
  rw [e, hb] at hN
  simp at hN
  exact hT hN.2.symm
theorem isbuilder_ne_held {B b N : Nat} {bs : List Value} {w : World} {cs : Array Value} {T : TypeId} (h : Lib.IsBuilder 36 5 B b bs w) (hT : T ≠ 36) (hN : Held w N cs T) : N ≠ b := by
  rcases h with h | h
  · exact builder_ne_held h hT hN
  · exact builder_ne_held h hT hN
theorem isbuilder_ne {B b c : Nat} {x : Value} {bs : List Value} {W : World} {t : TypeId} (h : Lib.IsBuilder 36 5 B b bs W) (hc : Boxed W c t x) : c ≠ b := by
  rcases h with h | h
  · exact builder_ne h hc
  · exact builder_ne h hc
/-- A builder abides what turns another typed block alone. -/
theorem builder_grown_at {B b N : Nat} {p : Value} {bs : List Value} {w w' : World} {cs : Array Value} {T : TypeId} (h : Lib.BuilderAt 36 5 B b p bs w) (hN : Held w N cs T) (hT : T ≠ 5 ∧ T ≠ 36) (hg : w.grownBy w' (some N)) : Lib.BuilderAt 36 5 B b p bs w' := by
  have hne := builder_ne_held h hT.2 hN
  have hN : w.heap[N]? = some (.cells cs T (0, 0)) := hN
  obtain ⟨hB, v, hbk, hown, hn2⟩ := h
  refine ⟨hB, v, (hg.block b (heap_lt hbk) (by simpa using fun e => hne e.symm)).trans hbk, hown.kept hg ?_, hn2⟩
  rcases hown.2 with ⟨rfl, _⟩ | ⟨g, cap, cur, rfl, _, hgb, _⟩
  · exact .inl rfl
  · refine .inr fun e => ?_
    have e2 : N = g := by simpa [Value.ownBlock] using e.symm
    rw [e2, hgb] at hN
    simp at hN
    exact hT.1 hN.2.symm
theorem isbuilder_grown_at {B b N : Nat} {bs : List Value} {w w' : World} {cs : Array Value} {T : TypeId} (h : Lib.IsBuilder 36 5 B b bs w) (hN : Held w N cs T) (hT : T ≠ 5 ∧ T ≠ 36) (hg : w.grownBy w' (some N)) : Lib.IsBuilder 36 5 B b bs w' := by
  rcases h with h | h
  · exact .inl (builder_grown_at h hN hT hg)
  · exact .inr (builder_grown_at h hN hT hg)
theorem isbuilder_grown {B b : Nat} {bs : List Value} {W W' : World} {row : Option Nat} (h : Lib.IsBuilder 36 5 B b bs W) (hg : W.grownBy W' row) (hr : ∀ r, row = some r → ∃ o : Obj, W.heap[r]? = some o ∧ o.isCells = false) : Lib.IsBuilder 36 5 B b bs W' := by
  rcases h with h | h
  · exact .inl (builder_grown h hg hr)
  · exact .inr (builder_grown h hg hr)
theorem isbuilder_box {B b c : Nat} {bs : List Value} {W : World} {t : TypeId} (ht : t ≠ 5) (v : Value) (h : Lib.IsBuilder 36 5 B b bs W) (hc : ∃ x, Boxed W c t x) : Lib.IsBuilder 36 5 B b bs (W.setCell ⟨c, 0, none⟩ v) := by
  rcases h with h | h
  · exact .inl (builder_box ht v h hc)
  · exact .inr (builder_box ht v h hc)
theorem check_k (B b : Nat) (bs : List Value) (w : World) (h : Lib.IsBuilder 36 5 B b bs w) :
    Calls Tryd.prog 24 #[.pointer (some ⟨b, 0, none⟩)] w fun e w' => e = .returned (.tuple #[]) ∧ (Lib.BuilderAt 36 5 B b (.pointer (some ⟨b, 0, none⟩)) bs w' ∧ Below B w w' ∧ Lib.OthersKept 5 (some b) w w' ∧ w.heap.size ≤ w'.heap.size) := by
  rcases h with h | h
  · refine (check_fresh b w h.cell0 h.shape h.frozen0).mono ?_
    rintro e w' ⟨rfl, rfl⟩
    exact ⟨rfl, h.used _, (Below.refl B w).setCell (p := ⟨b, 0, none⟩) h.1 _, (Lib.OthersKept.refl _ _ w).setCell ⟨b, 0, none⟩ rfl _, by simp [World.setCell]⟩
  · refine (check_used b w h.cell0).mono ?_
    rintro e w' ⟨rfl, rfl⟩
    exact ⟨rfl, h, Below.refl B _, Lib.OthersKept.refl _ _ _, Nat.le_refl _⟩

set_option maxHeartbeats 2000000 in
set_option maxRecDepth 100000 in
theorem bwrite_k2 (B b : Nat) (bs : List Value) (s : ByteArray) (w : World) (h : Lib.IsBuilder 36 5 B b bs w) (hlen : bs.length + s.size ≤ 140737488355328) (hBw : B ≤ w.heap.size) :
    Calls Tryd.prog 16 #[.pointer (some ⟨b, 0, none⟩), .string s] w fun e w' => e = .returned (.tuple #[.int .i64 s.size, .nilIface]) ∧ (Lib.BuilderAt 36 5 B b (.pointer (some ⟨b, 0, none⟩)) (bs ++ Lib.strCells s) w' ∧ Below B w w' ∧ Lib.OthersKept 5 (some b) w w' ∧ w.heap.size ≤ w'.heap.size) := by
  obtain ⟨i0, hi, hz0, hz1, hz2⟩ := info_parts infoByte
  have hck := check_k B b bs w h
  clear h
  go_enter Tryd.func16, Tryd.ntmps16
  go_wp2_with (go_at_call 24; refine hck.mono ?_)
  rintro e w1 ⟨rfl, h1, hbw1, ho1, hz1w⟩
  obtain ⟨hB, v, hbk, hown, hne⟩ := h1
  have c0 : w1.cell? ⟨b, 0, none⟩ = some (.pointer (some ⟨b, 0, none⟩)) := by rw [Lib.cell_of_heap hbk]; rfl
  have c1 : w1.cell? ⟨b, 1, none⟩ = some v := by rw [Lib.cell_of_heap hbk]; rfl
  clear hck
  go_wp2_with (at_builtin; refine Lib.wpList_append_own_string _ rfl _ _ 34 9 rfl B 5 i0 Tryd.underlying34 Tryd.underlying9 hi hz0 hz1 hz2 _ _ _ rfl hown s rfl ?c3 ?c4 ?c5 ?_)
  case c3 => unfold maxLen; omega
  case c4 => omega
  case c5 => omega
  intro v' w2 hown' hgrow _
  have hlt : b < w1.heap.size := by
    rcases Nat.lt_or_ge b w1.heap.size with h' | h'
    · exact h'
    · simp [Array.getElem?_eq_none h'] at hbk
  have hb2 : w2.heap[b]? = some (.cells #[.pointer (some ⟨b, 0, none⟩), v] 36 (0, 0)) := by
    rw [hgrow.block b hlt (fun e => hne e.symm)]
    exact hbk
  have hoth : Lib.OthersKept 5 (some b) w w2 := ho1.grown hgrow fun g hg => by
    rcases hown.2 with ⟨rfl, _⟩ | ⟨g2, cap, cur, rfl, _, hgb, _⟩
    · cases hg
    · obtain rfl : g2 = g := by simpa [Value.ownBlock] using hg
      exact ⟨_, _, hgb⟩
  have d0 : w2.cell? ⟨b, 0, none⟩ = some (.pointer (some ⟨b, 0, none⟩)) := by rw [Lib.cell_of_heap hb2]; rfl
  have d1 : w2.cell? ⟨b, 1, none⟩ = some v := by rw [Lib.cell_of_heap hb2]; rfl
  have f1 : w2.frozen? ⟨b, 1, none⟩ = false := Lib.frozen_of_heap hb2 1
  have hz := hgrow.size
  obtain ⟨ao, n', cap, rfl⟩ : ∃ ao n' cap, v' = .slice ao n' cap := by
    rcases hown'.2 with ⟨hv, _⟩ | ⟨g, cap, cur, hv, _⟩
    · exact ⟨_, _, _, hv⟩
    · exact ⟨_, _, _, hv⟩
  go_wp2
  go_ret2
  refine ⟨rfl, ?_, ?_, hoth.setCell ⟨b, 1, none⟩ rfl _, by simpa [World.setCell] using Nat.le_trans hz1w hz⟩
  · exact Lib.BuilderAt.put (T := 36) (e := 5) hB hb2 (bs' := bs ++ Lib.strCells s) (by simpa [Lib.strCells_length] using hown') (by decide)
  · exact ((hbw1.grown hgrow (by omega) (fun k hk => (hown.lt k hk).1))).setCell (p := ⟨b, 1, none⟩) hB _
end Go.Proofs.YtjkcjbbkplonkaaDoor
