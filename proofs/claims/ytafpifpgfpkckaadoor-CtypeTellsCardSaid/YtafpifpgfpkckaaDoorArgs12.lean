/-
  What a call of a statement of layer 12 is handed, and what its answer 'true' comes to; the memory of a first call, with the three listed tables in place.
-/
import Derived.Test.YtafpifpgfpkckaaDoorCards
import Derived.Test.YtafpifpgfpkckaaDoorTie
import Derived.Test.YtafpifpgfpkckaaDoorCtD
import Derived.WalkKit
import Derived.ProofKit
import Derived.OpenShut
import Derived.Below
import Derived.Carry
import Derived.SliceStrings
import Derived.ChangeSame
import Derived.SizedLaws
import Derived.Lay
import Derived.MakeChecks
import Derived.Deep.Slices
import Derived.Deep.Fields
import Derived.Deep.DeepWitnessRowRef
import Derived.Lib.SmallJoins
namespace Go.Proofs.YtafpifpgfpkckaaDoor
set_option maxRecDepth 100000
open Go.ChangeShapes Go.WideShapes Go.ChangeAt Go.RowKit Go.Joins Go.Deep

theorem own : ownKnob Tryd.prog.godebug = none := by kernel_rfl
theorem laid_out : laidOutB Tryd.prog = true := by kernel_rfl

section
variable {H : Type} {enc : TypeId × Value → H} {W W' : World} {args : Array Value} {ds : List (DataW H)} {before : List MemPlace} {f : Func} {s : ChangeSpec}
/-- The answer true, with nothing that was there touched and the arguments reading as before: what each of the rows asks. -/
theorem true_post (hv : s.vars = []) (hr : f.resultTypes = #[4]) (hs : s.fn H ds = { results := [.lit (.bool true)], args := ds }) (hW : DataW.Whole enc Tryd.prog f.params.toList s.vars false W args.toList ds [] before)
    (hargs : DataW.TrodAll enc Tryd.prog W' 0 (fun b => decide (b < W.heap.size)) true f.params.toList args.toList ds before) (hb : Below W.heap.size W W') :
    s.post enc Tryd.prog f false true false false W args (.bool true) W' := by
  refine ⟨ds, [], before, [], before, [], hW, ?_, ?_, ?_, hb.frame _, fun h => by cases h⟩
  · rw [hr, List.append_nil, hs]
    exact trodAll_mk1 (shut_bool Tryd.underlying4 _)
  · rw [List.append_nil, hs]
    exact hargs
  · rw [hv, List.append_nil, hs]
    rfl
end

/-- A first memory: as the program lays it, the three listed tables in place. -/
noncomputable def firstWorld (os : Os) : World := World.laidAll Tryd.prog os Rows.ctypeTellsRow.laid
theorem first_met (os : Os) (args : Array Value) : laidMetH Tryd.prog Rows.ctypeTellsRow.laid ((firstWorld os).forCall (fun _ _ => 0) ⟨#[], args, []⟩).memory := by
  rw [MakeChecks.laidMetH_plain _ _ _ (by kernel_rfl)]
  exact laidMet_laidAll _ (by kernel_rfl) (by kernel_rfl)

/-- None, or some row's. -/
def NilC (v : Value) : Prop := ∃ ao n c, v = .slice ao n c ∧ (ao = none → n = 0 ∧ c = 0)
/-- A type of which no text is longer than M. -/
def SmallC (M : Nat) (t : TypeC) : Prop := t.1.length ≤ M ∧ t.2.1.length ≤ M ∧ ∀ p ∈ t.2.2, p.1.length ≤ M ∧ p.2.length ≤ M
section
variable {H : Type} {enc : TypeId × Value → H} {W : World} {base : Nat} {v : Value} {d : DataW H} {p : List MemPlace}
theorem cell_spotC {w : World} {a : Addr} {v : Value} (h : w.cell? a = some v) : a.spot = none := by
  obtain ⟨b, off, sp⟩ := a
  cases sp with
  | none => rfl
  | some x =>
    simp [World.cell?] at h
    split at h <;> simp at h
theorem par_cells {cs : List Value} {n : Nat} {y : DataW H × List MemPlace} (h : DataW.trod enc Tryd.prog W 0 (fun _ => true) true n 42 cs = some y) :
    ∃ f : ParC, cs = [.string (textQ f.1), .string (textQ f.2)] ∧ f.1.length ≤ maxLen ∧ f.2.length ≤ maxLen := by
  obtain ⟨xs, m, _, hx, hl, hlen, hf⟩ := DataW.trod_struct Tryd.underlying42 h
  have e2 : Tryd.prog.cellsOf 42 = 2 := by kernel_rfl
  have e1s : Tryd.prog.cellsOf 9 = 1 := by kernel_rfl
  rw [e2] at hl
  match cs, hl, xs, hlen with
  | [a0, a1], _, [y0, y1], _ =>
    have h0 : DataW.trod enc Tryd.prog W 0 (fun _ => true) true m 9 (([a0, a1].drop 0).take (Tryd.prog.cellsOf 9)) = some y0 := hf 0 _ rfl
    rw [e1s] at h0
    have h1 : DataW.trod enc Tryd.prog W 0 (fun _ => true) true m 9 (([a0, a1].drop 1).take (Tryd.prog.cellsOf 9)) = some y1 := hf 1 _ rfl
    rw [e1s] at h1
    obtain ⟨k, q0, _, w0⟩ := DataW.trod_string Tryd.underlying9 (show DataW.trod enc Tryd.prog W 0 (fun _ => true) true m 9 [a0] = some y0 from h0)
    obtain ⟨v, q1, _, w1⟩ := DataW.trod_string Tryd.underlying9 (show DataW.trod enc Tryd.prog W 0 (fun _ => true) true m 9 [a1] = some y1 from h1)
    simp only [List.cons.injEq, and_true] at q0 q1
    subst q0 q1
    exact ⟨(k.data.toList, v.data.toList), rfl, w0, w1⟩
theorem pars_trod {cs : List Value} {n : Nat} {y : DataW H × List MemPlace} (h : DataW.trod enc Tryd.prog W 0 (fun _ => true) true n 22 cs = some y) :
    ∃ v l, cs = [v] ∧ ParsAt W W.heap.size v l ∧ (∀ p ∈ l, p.1.length ≤ maxLen ∧ p.2.length ≤ maxLen) ∧ NilC v := by
  rcases open_slice Tryd.underlying22 h with ⟨hcs, _⟩ | ⟨ad, len, cap, m, n, D, Pl, hcs, _, hl, hm, hmm, hx, hi⟩
  · exact ⟨_, [], hcs, ParsAt.nil _ _, (fun f hf => by cases hf), ⟨_, _, _, rfl, fun _ => ⟨rfl, rfl⟩⟩⟩
  · simp only [if_true] at hmm
    have e2 : Tryd.prog.cellsOf 42 = 2 := by kernel_rfl
    rw [e2] at hi
    have hall : ∀ i, i < len → ∃ x : ParC, (x.1.length ≤ maxLen ∧ x.2.length ≤ maxLen) ∧ ∀ j, j < 2 → W.cell? ((ad.add (i * 2)).add j) = [Value.string (textQ x.1), .string (textQ x.2)][j]? := fun i hlt => by
      obtain ⟨cs', hc, ht⟩ := hi i (by omega)
      obtain ⟨x, rfl, hs⟩ := par_cells ht
      obtain ⟨_, _, hat⟩ := World.cells?_some hc
      exact ⟨x, hs, fun j hj => hat j hj⟩
    have hch : ∃ f : Nat → ParC, ∀ i, i < len → ((f i).1.length ≤ maxLen ∧ (f i).2.length ≤ maxLen) ∧ ∀ j, j < 2 → W.cell? ((ad.add (i * 2)).add j) = [Value.string (textQ (f i).1), .string (textQ (f i).2)][j]? := by
      classical
      refine ⟨fun i => if h : i < len then (hall i h).choose else ([], []), fun i hlt => ?_⟩
      simp only [dif_pos hlt]
      exact (hall i hlt).choose_spec
    obtain ⟨f, hf⟩ := hch
    have hlen : ((List.range len).map f).length = len := by simp
    refine ⟨_, (List.range len).map f, hcs, ⟨some ad, cap, by rw [hlen], by rw [hlen]; exact hl, hm, fun i hi2 => ?_⟩, ?_, ⟨_, _, _, rfl, fun e => by cases e⟩⟩
    · rw [hlen] at hi2
      have hc0 := (hf 0 (by omega)).2 0 (by omega)
      have hadd : (ad.add (0 * 2)).add 0 = ad := by simp [Addr.add]
      rw [hadd] at hc0
      have hsp := cell_spotC hc0
      obtain ⟨b, off, sp⟩ := ad
      obtain rfl : sp = none := hsp
      have hblt : b < W.heap.size := by
        rcases Nat.lt_or_ge b W.heap.size with h1 | h1
        · exact h1
        · rw [World.cell?, Array.getElem?_eq_none h1] at hc0
          simp at hc0
      have hcj := (hf i hi2).2
      simp only [Addr.add_lit] at hcj
      simp only [List.getElem_map, List.getElem_range]
      exact ⟨b, off, rfl, hblt, hcj 0 (by omega), hcj 1 (by omega)⟩
    · intro c hc
      obtain ⟨i, hi', rfl⟩ := List.mem_map.1 hc
      exact (hf i (List.mem_range.1 hi')).1
/-- A type that is handed over. -/
theorem open_type (hv : Value.okWide Tryd.prog W .any base 24 v) (h : DataW.Trod enc Tryd.prog W 0 (fun _ => true) true 24 v d p) :
    ∃ (t : TypeC) (u : Value), v = typeV t u ∧ ParsAt W W.heap.size u t.2.2 ∧ SmallC maxLen t ∧ NilC u := by
  obtain ⟨c0, c1, c2, y0, y1, y2, m, rfl, rfl, rfl, hy0, hy1, hy2⟩ := open_agg3 Tryd.underlying24 (by kernel_rfl) (by kernel_rfl) hv h
  obtain ⟨l, e0, _, w0⟩ := DataW.trod_string Tryd.underlying9 hy0
  obtain ⟨k, e1, _, w1⟩ := DataW.trod_string Tryd.underlying9 hy1
  obtain ⟨u, ps, e2, hat, hsm, hnl⟩ := pars_trod hy2
  simp only [List.cons.injEq, and_true] at e0 e1 e2
  subst e0 e1 e2
  exact ⟨(l.data.toList, k.data.toList, ps), c2, rfl, hat, ⟨w0, w1, hsm⟩, hnl⟩
/-- A parameter that is handed over. -/
theorem open_param (hv : Value.okWide Tryd.prog W .any base 42 v) (h : DataW.Trod enc Tryd.prog W 0 (fun _ => true) true 42 v d p) :
    ∃ f : ParC, v = .agg #[.string (textQ f.1), .string (textQ f.2)] ∧ p = [] ∧ (f.1.length ≤ maxLen ∧ f.2.length ≤ maxLen) := by
  obtain ⟨c0, c1, y0, y1, m, rfl, rfl, rfl, hy0, hy1⟩ := open_agg2 Tryd.underlying42 (by kernel_rfl) (by kernel_rfl) hv h
  obtain ⟨l, e0, rfl, w0⟩ := DataW.trod_string Tryd.underlying9 hy0
  obtain ⟨k, e1, rfl, w1⟩ := DataW.trod_string Tryd.underlying9 hy1
  simp at e0 e1
  subst e0 e1
  exact ⟨(l.data.toList, k.data.toList), rfl, rfl, w0, w1⟩
end
end Go.Proofs.YtafpifpgfpkckaaDoor
