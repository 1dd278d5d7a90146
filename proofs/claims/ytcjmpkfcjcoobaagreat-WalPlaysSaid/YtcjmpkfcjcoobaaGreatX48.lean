/-
  Texts of this proof, put together: Args4, Args8.
-/
import Derived.Test.YtcjmpkfcjcoobaaGreatRows
import Derived.WalkKit
import Derived.ProofKit
import Derived.OpenShut
import Derived.Below
import Derived.Deep.DeepHandedRow
import Derived.Lib.LaidTab
import Derived.Lib.SmallJoins
import Derived.Test.YtcjmpkfcjcoobaaGreatX04
import Derived.Test.YtcjmpkfcjcoobaaGreatX26
import Derived.Carry
import Derived.SliceStrings
import Derived.Deep.Slices
import Derived.Deep.Fields
import Derived.ChangeSame
import Derived.SizedLaws
namespace Go.Proofs.YtcjmpkfcjcoobaaGreat
set_option maxRecDepth 100000
open Go.ChangeShapes Go.WideShapes Go.ChangeAt Go.RowKit Go.Joins

theorem own : ownKnob Tryz.prog.godebug = none := by kernel_rfl
theorem laid_out3 : laidOutB Tryz.prog = true := by kernel_rfl

/-- A byte that is handed over is one. -/
theorem byte_of {i : Int} (h : (Lit.int .u8 i).wf = true) : ∃ c : UInt8, i = (c.toNat : Int) := by
  have h1 : 0 ≤ i ∧ i < 256 := by
    simp only [Lit.wf, Bool.and_eq_true, decide_eq_true_eq] at h
    have e1 : IntKind.u8.min = 0 := by decide
    have e2 : IntKind.u8.max = 255 := by decide
    omega
  refine ⟨UInt8.ofNat i.toNat, ?_⟩
  rw [UInt8.toNat_ofNat_of_lt' (by show i.toNat < 256; omega)]
  omega

section
variable {H : Type} {enc : TypeId × Value → H} {W W' : World} {args : Array Value} {ds : List (DataW H)} {before : List MemPlace} {f : Func} {s : ChangeSpec}
/-- The answer true, with nothing that was there touched and the arguments reading as before: what each of the rows asks. -/
theorem true_post (hv : s.vars = []) (hr : f.resultTypes = #[4]) (hs : s.fn H ds = { results := [.lit (.bool true)], args := ds }) (hW : DataW.Whole enc Tryz.prog f.params.toList s.vars false W args.toList ds [] before)
    (hargs : DataW.TrodAll enc Tryz.prog W' 0 (fun b => decide (b < W.heap.size)) true f.params.toList args.toList ds before) (hb : Below W.heap.size W W') :
    s.post enc Tryz.prog f false true false false W args (.bool true) W' := by
  refine ⟨ds, [], before, [], before, [], hW, ?_, ?_, ?_, hb.frame _, fun h => by cases h⟩
  · rw [hr, List.append_nil, hs]
    exact trodAll_mk1 (shut_bool Tryz.underlying4 _)
  · rw [List.append_nil, hs]
    exact hargs
  · rw [hv, List.append_nil, hs]
    rfl
end
/-- A first memory: as the program lays it. -/
noncomputable def firstWorld3 (os : Os) : World := World.holding Tryz.prog os ⟨#[], #[], []⟩
theorem first_met3 (os : Os) (args : Array Value) : laidMetH Tryz.prog Rows.walTextsRow.laid ((firstWorld3 os).forCall (fun _ _ => 0) ⟨#[], args, []⟩).memory :=
  laidMet_of_run' 8 (by kernel_rfl) (by kernel_rfl)
end Go.Proofs.YtcjmpkfcjcoobaaGreat
namespace Go.Proofs.YtcjmpkfcjcoobaaGreat
set_option maxRecDepth 100000
open Go.ChangeShapes Go.WideShapes Go.ChangeAt Go.RowKit Go.Joins Go.Deep

/-- Changes whose texts are no longer than a text may be. -/
def SmallC (l : List Ch) : Prop := ∀ c ∈ l, c.key.length ≤ maxLen ∧ c.val.length ≤ maxLen
/-- Rows of changes that lie somewhere. -/
def RowsAt (w : World) (B : Nat) (v : Value) (ls : List (List Ch)) : Prop :=
  ∃ ao cap, v = .slice ao ls.length cap ∧ ls.length ≤ cap ∧ cap ≤ maxLen ∧ ∀ i (hi : i < ls.length), ∃ g off v', ao = some ⟨g, off, none⟩ ∧ g < B ∧ w.cell? ⟨g, off + i, none⟩ = some v' ∧ ChsAt w B v' ls[i]
theorem RowsAt.below {w w' : World} {B B' : Nat} {v : Value} {ls : List (List Ch)} (h : RowsAt w B v ls) (hb : Below B' w w') (hB : B ≤ B') : RowsAt w' B v ls := by
  obtain ⟨ao, cap, h1, h2, h3, h4⟩ := h
  refine ⟨ao, cap, h1, h2, h3, fun i hi => ?_⟩
  obtain ⟨g, off, v', q1, q2, q3, q4⟩ := h4 i hi
  exact ⟨g, off, v', q1, q2, (hb.cell (p := ⟨g, off + i, none⟩) (by show g < B'; omega)).trans q3, q4.below hb hB⟩

section
variable {H : Type} {enc : TypeId × Value → H} {W : World} {base : Nat} {v : Value} {d : DataW H} {p : List MemPlace}

theorem cell_spot {w : World} {a : Addr} {v : Value} (h : w.cell? a = some v) : a.spot = none := by
  obtain ⟨b, off, sp⟩ := a
  cases sp with
  | none => rfl
  | some x =>
    simp [World.cell?] at h
    split at h <;> simp at h

theorem open_list {c0 : Value} {n : Nat} {y : DataW H × List MemPlace} (h : DataW.trod enc Tryz.prog W 0 (fun _ => true) true n 58 [c0] = some y) :
    ∃ A len cap ss, c0 = .slice A len cap ∧ Strs W W.heap.size A len cap ss ∧ ∀ s ∈ ss, s.size ≤ maxLen := by
  rcases open_strings Tryz.underlying58 Tryz.underlying9 (by kernel_rfl) h with ⟨hcs, _⟩ | ⟨a, len, cap, ss, hcs, _, hl, hm, hz, _, hcell, hsz⟩
  · simp only [List.cons.injEq, and_true] at hcs
    exact ⟨none, 0, 0, [], hcs, ⟨rfl, .inl ⟨rfl, rfl, rfl⟩⟩, by simp⟩
  · simp only [List.cons.injEq, and_true] at hcs
    simp only [if_true] at hz
    refine ⟨some a, len, cap, ss.take len, hcs, ⟨by rw [List.length_take]; omega, .inr ⟨a, rfl, ?_⟩⟩, fun s hs => hsz s (List.mem_of_mem_take hs)⟩
    rcases Nat.eq_zero_or_pos len with h0 | h0
    · exact .inl h0
    · have hc0 := hcell 0 (by omega)
      have hadd : a.add 0 = a := by simp [Addr.add]
      rw [hadd] at hc0
      have hsp := cell_spot hc0
      obtain ⟨b, off, sp⟩ := a
      obtain rfl : sp = none := hsp
      have hblt : b < W.heap.size := by
        rcases Nat.lt_or_ge b W.heap.size with h1 | h1
        · exact h1
        · rw [World.cell?, Array.getElem?_eq_none h1] at hc0
          simp at hc0
      refine .inr ⟨b, off, rfl, hblt, fun j hj => ?_⟩
      have hcj := hcell j (by omega)
      have e : (⟨b, off, none⟩ : Addr).add j = ⟨b, off + j, none⟩ := by
        unfold Addr.add
        split <;> simp_all
      rw [e] at hcj
      rw [hcj, getD_take_lt _ _ _ _ hj]

theorem open_list8 (hv : Value.okWide Tryz.prog W .any base 58 v) (h : DataW.Trod enc Tryz.prog W 0 (fun _ => true) true 58 v d p) :
    ∃ A n c ss, v = .slice A n c ∧ Strs W W.heap.size A n c ss ∧ ∀ s ∈ ss, s.size ≤ maxLen := by
  obtain ⟨a, l, c, rfl⟩ := okWide_slice Tryz.underlying58 hv
  obtain ⟨n, h⟩ := h
  obtain ⟨A, len, cap, ss, e, h1, h2⟩ := open_list (c0 := .slice a l c) (by simpa [Value.cells] using h)
  exact ⟨A, len, cap, ss, e, h1, h2⟩

theorem ch_cells {cs : List Value} {n : Nat} {y : DataW H × List MemPlace} (h : DataW.trod enc Tryz.prog W 0 (fun _ => true) true n 25 cs = some y) :
    ∃ c : Ch, cs = [.string (textQ c.key), .string (textQ c.val), .bool c.gone] ∧ c.key.length ≤ maxLen ∧ c.val.length ≤ maxLen := by
  obtain ⟨xs, m, _, hx, hl, hlen, hf⟩ := DataW.trod_struct Tryz.underlying25 h
  have e3 : Tryz.prog.cellsOf 25 = 3 := by kernel_rfl
  have e1b : Tryz.prog.cellsOf 4 = 1 := by kernel_rfl
  have e1s : Tryz.prog.cellsOf 9 = 1 := by kernel_rfl
  rw [e3] at hl
  match cs, hl, xs, hlen with
  | [a0, a1, a2], _, [y0, y1, y2], _ =>
    have h0 : DataW.trod enc Tryz.prog W 0 (fun _ => true) true m 9 (([a0, a1, a2].drop 0).take (Tryz.prog.cellsOf 9)) = some y0 := hf 0 _ rfl
    rw [e1s] at h0
    have h1 : DataW.trod enc Tryz.prog W 0 (fun _ => true) true m 9 (([a0, a1, a2].drop 1).take (Tryz.prog.cellsOf 9)) = some y1 := hf 1 _ rfl
    rw [e1s] at h1
    have h2 : DataW.trod enc Tryz.prog W 0 (fun _ => true) true m 4 (([a0, a1, a2].drop 2).take (Tryz.prog.cellsOf 4)) = some y2 := hf 2 _ rfl
    rw [e1b] at h2
    obtain ⟨k, q0, _, w0⟩ := DataW.trod_string Tryz.underlying9 (show DataW.trod enc Tryz.prog W 0 (fun _ => true) true m 9 [a0] = some y0 from h0)
    obtain ⟨v, q1, _, w1⟩ := DataW.trod_string Tryz.underlying9 (show DataW.trod enc Tryz.prog W 0 (fun _ => true) true m 9 [a1] = some y1 from h1)
    obtain ⟨b, q2, _⟩ := DataW.trod_bool Tryz.underlying4 (show DataW.trod enc Tryz.prog W 0 (fun _ => true) true m 4 [a2] = some y2 from h2)
    simp only [List.cons.injEq, and_true] at q0 q1 q2
    subst q0 q1 q2
    exact ⟨⟨k.data.toList, v.data.toList, b⟩, rfl, w0, w1⟩
theorem chs_trod {cs : List Value} {n : Nat} {y : DataW H × List MemPlace} (h : DataW.trod enc Tryz.prog W 0 (fun _ => true) true n 22 cs = some y) :
    ∃ v l, cs = [v] ∧ ChsAt W W.heap.size v l ∧ SmallC l := by
  rcases open_slice Tryz.underlying22 h with ⟨hcs, _⟩ | ⟨ad, len, cap, m, n, D, Pl, hcs, _, hl, hm, hmm, hx, hi⟩
  · exact ⟨_, [], hcs, ⟨none, 0, rfl, Nat.le_refl _, by simp, fun i hi => by simp at hi⟩, fun c hc => by cases hc⟩
  · simp only [if_true] at hmm
    have e3 : Tryz.prog.cellsOf 25 = 3 := by kernel_rfl
    rw [e3] at hi
    have hall : ∀ i, i < len → ∃ x : Ch, (x.key.length ≤ maxLen ∧ x.val.length ≤ maxLen) ∧ ∀ j, j < 3 → W.cell? ((ad.add (i * 3)).add j) = [Value.string (textQ x.key), .string (textQ x.val), .bool x.gone][j]? := fun i hlt => by
      obtain ⟨cs', hc, ht⟩ := hi i (by omega)
      obtain ⟨x, rfl, hs⟩ := ch_cells ht
      obtain ⟨_, _, hat⟩ := World.cells?_some hc
      exact ⟨x, hs, fun j hj => hat j hj⟩
    have hch : ∃ f : Nat → Ch, ∀ i, i < len → ((f i).key.length ≤ maxLen ∧ (f i).val.length ≤ maxLen) ∧ ∀ j, j < 3 → W.cell? ((ad.add (i * 3)).add j) = [Value.string (textQ (f i).key), .string (textQ (f i).val), .bool (f i).gone][j]? := by
      classical
      refine ⟨fun i => if h : i < len then (hall i h).choose else ⟨[], [], false⟩, fun i hlt => ?_⟩
      simp only [dif_pos hlt]
      exact (hall i hlt).choose_spec
    obtain ⟨f, hf⟩ := hch
    have hlen : ((List.range len).map f).length = len := by simp
    refine ⟨_, (List.range len).map f, hcs, ⟨some ad, cap, by rw [hlen], by rw [hlen]; exact hl, hm, fun i hi2 => ?_⟩, ?_⟩
    · rw [hlen] at hi2
      have hc0 := (hf 0 (by omega)).2 0 (by omega)
      have hadd : (ad.add (0 * 3)).add 0 = ad := by simp [Addr.add]
      rw [hadd] at hc0
      have hsp := cell_spot hc0
      obtain ⟨b, off, sp⟩ := ad
      obtain rfl : sp = none := hsp
      have hblt : b < W.heap.size := by
        rcases Nat.lt_or_ge b W.heap.size with h1 | h1
        · exact h1
        · rw [World.cell?, Array.getElem?_eq_none h1] at hc0
          simp at hc0
      have hcj := (hf i hi2).2
      simp only [Addr.add_lit] at hcj
      simp only [List.getElem_map, List.getElem_range]
      exact ⟨b, off, rfl, hblt, hcj 0 (by omega), hcj 1 (by omega), hcj 2 (by omega)⟩
    · intro c hc
      obtain ⟨i, hi', rfl⟩ := List.mem_map.1 hc
      exact (hf i (List.mem_range.1 hi')).1
theorem open_chs (hv : Value.okWide Tryz.prog W .any base 22 v) (h : DataW.Trod enc Tryz.prog W 0 (fun _ => true) true 22 v d p) :
    ∃ l, ChsAt W W.heap.size v l ∧ SmallC l := by
  obtain ⟨a, l, c, rfl⟩ := okWide_slice Tryz.underlying22 hv
  obtain ⟨fuel, h⟩ := h
  obtain ⟨v', l', e, h1, h2⟩ := chs_trod (show DataW.trod enc Tryz.prog W 0 (fun _ => true) true fuel 22 [.slice a l c] = some (d, p) by simpa [Value.cells] using h)
  simp only [List.cons.injEq, and_true] at e
  subst e
  exact ⟨l', h1, h2⟩
theorem open_rows8 (hw : ∀ n ∈ d.weights Tryz.prog 39, n ≤ reachBytes) (hv : Value.okWide Tryz.prog W .any base 39 v) (h : DataW.Trod enc Tryz.prog W 0 (fun _ => true) true 39 v d p) :
    ∃ ls, RowsAt W W.heap.size v ls ∧ ls.length ≤ 1000000000000000 ∧ ∀ l ∈ ls, SmallC l := by
  obtain ⟨a, l, c, rfl⟩ := okWide_slice Tryz.underlying39 hv
  obtain ⟨fuel, h⟩ := h
  have h2 : DataW.trod enc Tryz.prog W 0 (fun _ => true) true fuel 39 [.slice a l c] = some (d, p) := by simpa [Value.cells] using h
  rcases open_slice Tryz.underlying39 h2 with ⟨hcs, _⟩ | ⟨ad, len, cap, m, n, D, Pl, hcs, _, hl, hm, hmm, hx, hi⟩
  · simp only [List.cons.injEq, and_true] at hcs
    exact ⟨[], ⟨none, 0, hcs, Nat.le_refl _, by simp, fun i hi => by simp at hi⟩, by simp, fun l hl => by cases hl⟩
  · simp only [List.cons.injEq, and_true] at hcs
    simp only [if_true] at hmm
    have hlen15 : len ≤ 1000000000000000 := by
      obtain ⟨hd, _⟩ := Prod.mk.inj hx
      subst hd
      have h3 := hw _ (by
        rw [DataW.weights, Tryz.underlying39]
        exact List.mem_cons_self ..)
      rw [show Tryz.prog.bytesOf 22 = 24 by kernel_rfl, List.length_map, List.length_map, List.length_range, List.length_range] at h3
      unfold reachBytes at h3
      omega
    have e1 : Tryz.prog.cellsOf 22 = 1 := by kernel_rfl
    rw [e1] at hi
    have hall : ∀ i, i < len → ∃ x : Value × List Ch, (ChsAt W W.heap.size x.1 x.2 ∧ SmallC x.2) ∧ W.cell? ((ad.add (i * 1)).add 0) = some x.1 := fun i hlt => by
      obtain ⟨cs', hc, ht⟩ := hi i (by omega)
      obtain ⟨x, l', rfl, hs⟩ := chs_trod ht
      obtain ⟨_, _, hat⟩ := World.cells?_some hc
      exact ⟨⟨x, l'⟩, hs, hat 0 (by omega)⟩
    have hch : ∃ f : Nat → Value × List Ch, ∀ i, i < len → (ChsAt W W.heap.size (f i).1 (f i).2 ∧ SmallC (f i).2) ∧ W.cell? ((ad.add (i * 1)).add 0) = some (f i).1 := by
      classical
      refine ⟨fun i => if h : i < len then (hall i h).choose else ⟨.bool false, []⟩, fun i hlt => ?_⟩
      simp only [dif_pos hlt]
      exact (hall i hlt).choose_spec
    obtain ⟨f, hf⟩ := hch
    have hlen : ((List.range len).map fun i => (f i).2).length = len := by simp
    refine ⟨(List.range len).map fun i => (f i).2, ⟨some ad, cap, by rw [hlen]; exact hcs, by rw [hlen]; exact hl, hm, fun i hi2 => ?_⟩, by rw [hlen]; exact hlen15, ?_⟩
    · rw [hlen] at hi2
      have hc0 := (hf 0 (by omega)).2
      have hadd : (ad.add (0 * 1)).add 0 = ad := by simp [Addr.add]
      rw [hadd] at hc0
      have hsp := cell_spot hc0
      obtain ⟨b, off, sp⟩ := ad
      obtain rfl : sp = none := hsp
      have hblt : b < W.heap.size := by
        rcases Nat.lt_or_ge b W.heap.size with h1 | h1
        · exact h1
        · rw [World.cell?, Array.getElem?_eq_none h1] at hc0
          simp at hc0
      have hcj := (hf i hi2).2
      simp only [Addr.add_lit, Nat.mul_one, Nat.add_zero] at hcj
      simp only [List.getElem_map, List.getElem_range]
      exact ⟨b, off, _, rfl, hblt, hcj, (hf i hi2).1.1⟩
    · intro c hc
      obtain ⟨i, hi', rfl⟩ := List.mem_map.1 hc
      exact (hf i (List.mem_range.1 hi')).1.2
theorem weights_at1 {t0 t1 : TypeId} {ts : List TypeId} {d0 d1 : DataW H} {ds : List (DataW H)} (h : (DataW.weightsEach Tryz.prog (t0 :: t1 :: ts) (d0 :: d1 :: ds)).all (· ≤ reachBytes) = true) : ∀ n ∈ d1.weights Tryz.prog t1, n ≤ reachBytes := fun n hn => by
  have h3 := List.all_eq_true.1 h n (by
    rw [DataW.weightsEach, DataW.weightsEach]
    exact List.mem_append_right _ (List.mem_append_left _ hn))
  simpa using h3
theorem weights_at3 {t0 t1 t2 t3 : TypeId} {ts : List TypeId} {d0 d1 d2 d3 : DataW H} {ds : List (DataW H)} (h : (DataW.weightsEach Tryz.prog (t0 :: t1 :: t2 :: t3 :: ts) (d0 :: d1 :: d2 :: d3 :: ds)).all (· ≤ reachBytes) = true) : ∀ n ∈ d3.weights Tryz.prog t3, n ≤ reachBytes := fun n hn => by
  have h3 := List.all_eq_true.1 h n (by
    rw [DataW.weightsEach, DataW.weightsEach, DataW.weightsEach, DataW.weightsEach]
    exact List.mem_append_right _ (List.mem_append_right _ (List.mem_append_right _ (List.mem_append_left _ hn))))
  simpa using h3
end
theorem ChsAt.up {w : World} {B B' : Nat} {v : Value} {l : List Ch} (h : ChsAt w B v l) (hB : B ≤ B') : ChsAt w B' v l := by
  obtain ⟨ao, cap, h1, h2, h3, h4⟩ := h
  refine ⟨ao, cap, h1, h2, h3, fun i hi => ?_⟩
  obtain ⟨g, off, q1, q2, q3⟩ := h4 i hi
  exact ⟨g, off, q1, by omega, q3⟩
/-- One row, laid by a law. -/
theorem rows_one {w : World} {B : Nat} {v : Value} {l : List Ch} (h : ChsAt w B v l) (hB : B ≤ w.heap.size) : RowsAt (w.alloc (.cells #[v] 22)) (w.heap.size + 1) (.slice (some ⟨w.heap.size, 0, none⟩) 1 1) [l] := by
  refine ⟨some ⟨w.heap.size, 0, none⟩, 1, rfl, Nat.le_refl _, by unfold maxLen; omega, fun i hi => ?_⟩
  have h0 : i = 0 := by simp at hi; omega
  subst h0
  have hh : (w.alloc (.cells #[v] 22)).heap[w.heap.size]? = some (.cells #[v] 22 (0, 0)) := heap_alloc_new w _
  exact ⟨w.heap.size, 0, v, rfl, by omega, Lib.cell_of_heap hh 0, (h.below ((Below.refl _ w).alloc (Nat.le_refl _) _) hB).up (by omega)⟩
end Go.Proofs.YtcjmpkfcjcoobaaGreat
