/-
  What strings.Builder's WriteString comes to at a builder that was used, with what it leaves as it lay: all blocks but the builder's own and its bytes'. Condition: the new length is at most 2^47.
-/
import Derived.Test.YtafpifpgfpkckaaDoorBuild
import Derived.Lib.OthersKept
import Derived.RangeFuncBox
namespace Go.Proofs.YtafpifpgfpkckaaDoor
open Go.RowKit

set_option maxHeartbeats 2000000 in
set_option maxRecDepth 100000 in
theorem bwrite_k (B b : Nat) (bs : List Value) (s : ByteArray) (w : World) (h : Lib.BuilderAt 51 5 B b (.pointer (some ⟨b, 0, none⟩)) bs w) (hlen : bs.length + s.size ≤ 140737488355328) (hBw : B ≤ w.heap.size) :
    Calls Tryd.prog 21 #[.pointer (some ⟨b, 0, none⟩), .string s] w fun e w' => e = .returned (.tuple #[.int .i64 s.size, .nilIface]) ∧ (Lib.BuilderAt 51 5 B b (.pointer (some ⟨b, 0, none⟩)) (bs ++ Lib.strCells s) w' ∧ Below B w w' ∧ Lib.OthersKept 5 (some b) w w' ∧ w.heap.size ≤ w'.heap.size) := by
  obtain ⟨i0, hi, hz0, hz1, hz2⟩ := info_parts infoByte
  have hcell0 := h.cell0
  obtain ⟨hB, v, hbk, hown, hne⟩ := h
  have c0 : w.cell? ⟨b, 0, none⟩ = some (.pointer (some ⟨b, 0, none⟩)) := by rw [Lib.cell_of_heap hbk]; rfl
  have c1 : w.cell? ⟨b, 1, none⟩ = some v := by rw [Lib.cell_of_heap hbk]; rfl
  go_enter Tryd.func21, Tryd.ntmps21
  go_wp2_with (go_at_call 36; refine (bcheck_used b _ hcell0).mono ?_)
  rintro e w1 ⟨rfl, hw1⟩
  obtain rfl := hw1.symm
  clear hw1
  go_wp2_with (at_builtin; refine Lib.wpList_append_own_string _ rfl _ _ 45 9 rfl B 5 i0 Tryd.underlying45 Tryd.underlying9 hi hz0 hz1 hz2 _ _ _ rfl hown s rfl ?c3 ?c4 ?c5 ?_)
  case c3 => unfold maxLen; omega
  case c4 => omega
  case c5 => omega
  intro v' w2 hown' hgrow _
  have hlt : b < w.heap.size := by
    rcases Nat.lt_or_ge b w.heap.size with h' | h'
    · exact h'
    · simp [Array.getElem?_eq_none h'] at hbk
  have hb2 : w2.heap[b]? = some (.cells #[.pointer (some ⟨b, 0, none⟩), v] 51 (0, 0)) := by
    rw [hgrow.block b hlt (fun e => hne e.symm)]
    exact hbk
  have hoth : Lib.OthersKept 5 (some b) w w2 := (Lib.OthersKept.refl _ _ w).grown hgrow fun g hg => by
    rcases hown.2 with ⟨rfl, _⟩ | ⟨g2, cap, cur, rfl, _, hgb, _⟩
    · cases hg
    · obtain rfl : g2 = g := by simpa [Value.ownBlock] using hg
      exact ⟨_, _, hgb⟩
  have d0 : w2.cell? ⟨b, 0, none⟩ = some (.pointer (some ⟨b, 0, none⟩)) := by rw [Lib.cell_of_heap hb2]; rfl
  have d1 : w2.cell? ⟨b, 1, none⟩ = some v := by rw [Lib.cell_of_heap hb2]; rfl
  have f1 : w2.frozen? ⟨b, 1, none⟩ = false := Lib.frozen_of_heap hb2 1
  have hz := hgrow.size
  obtain ⟨ao, n', cap, rfl⟩ : ∃ ao n' cap, v' = .slice ao n' cap := by
    rcases hown'.2 with ⟨hv, _⟩ | ⟨g, cap, cur, hv, _⟩
    · exact ⟨_, _, _, hv⟩
    · exact ⟨_, _, _, hv⟩
  go_wp2
  go_ret2
  refine ⟨rfl, ?_, ?_, hoth.setCell ⟨b, 1, none⟩ rfl _, by simpa [World.setCell] using hz⟩
  · exact Lib.BuilderAt.put (T := 51) (e := 5) hB hb2 (bs' := bs ++ Lib.strCells s) (by simpa [Lib.strCells_length] using hown') (by decide)
  · exact (((Below.refl B w).grown hgrow (by omega) (fun k hk => (hown.lt k hk).1))).setCell (p := ⟨b, 1, none⟩) hB _

/-- A builder abides the turn of a block that is no cells. -/
theorem builder_grown {B b : Nat} {p : Value} {bs : List Value} {W W' : World} {row : Option Nat} (h : Lib.BuilderAt 51 5 B b p bs W) (hg : W.grownBy W' row) (hr : ∀ r, row = some r → ∃ o : Obj, W.heap[r]? = some o ∧ o.isCells = false) : Lib.BuilderAt 51 5 B b p bs W' := by
  obtain ⟨hB, v, hbk, hown, hne⟩ := h
  have hlt : b < W.heap.size := (Array.getElem?_eq_some_iff.1 hbk).1
  refine ⟨hB, v, ?_, hown.kept hg ?_, hne⟩
  · refine (hg.block b hlt fun e => ?_).trans hbk
    obtain ⟨o, ho, hc⟩ := hr b e.symm
    rw [hbk] at ho
    cases ho
    cases hc
  · rcases hown.2 with ⟨rfl, _⟩ | ⟨g, cap, cur, rfl, _, hgb, _⟩
    · exact .inl rfl
    · refine .inr fun e => ?_
      obtain ⟨o, ho, hc⟩ := hr g (by simpa [Value.ownBlock] using e.symm)
      rw [hgb] at ho
      cases ho
      cases hc
/-- .. and a write into another block. -/
theorem builder_other {B b c : Nat} {p : Value} {bs : List Value} {W : World} (v : Value) (h : Lib.BuilderAt 51 5 B b p bs W) (hc : ∃ x, W.heap[c]? = some (.cells #[x] 9 (0, 0))) : Lib.BuilderAt 51 5 B b p bs (W.setCell ⟨c, 0, none⟩ v) := by
  obtain ⟨x, hc⟩ := hc
  obtain ⟨hB, u, hbk, hown, hne⟩ := h
  have hbc : b ≠ c := fun e => by
    rw [e, hc] at hbk
    simp at hbk
  refine ⟨hB, u, (Below.heap_setCell W ⟨c, 0, none⟩ v b hbc).trans hbk, hown.kept (grownBy_setCell' W c v) ?_, hne⟩
  rcases hown.2 with ⟨rfl, _⟩ | ⟨g, cap, cur, rfl, _, hgb, _⟩
  · exact .inl rfl
  · refine .inr fun e => ?_
    have e2 : c = g := by simpa [Value.ownBlock] using e.symm
    rw [← e2, hc] at hgb
    simp at hgb
/-- All that is no cells lies as it lay. -/
theorem keeps_of {b : Nat} {W W' : World} (h : Lib.OthersKept 5 (some b) W W') (hb : ∃ cs T fz, W.heap[b]? = some (.cells cs T fz)) (hz : W.heap.size ≤ W'.heap.size) : KeepsOthers W W' :=
  ⟨hz, fun k o hk ho => h k o hk (fun e => by
    obtain ⟨cs, T, fz, hb⟩ := hb
    obtain rfl : k = b := by simpa using e
    rw [hk] at hb
    cases hb
    cases ho) fun c fz e => by subst e; cases ho⟩
end Go.Proofs.YtafpifpgfpkckaaDoor
