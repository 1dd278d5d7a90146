/-
  A tree that a statement is handed.
-/
import Derived.Test.YtidlpdiephlkhaaGreatDoorZ19
import Derived.Test.YtidlpdiephlkhaaGreatDoorZFew13
namespace Go.Proofs.YtidlpdiephlkhaaGreatDoor
set_option maxRecDepth 100000
open Go.ChangeShapes Go.WideShapes Go.ChangeAt Go.RowKit Go.Joins Go.Deep

section
variable {H : Type} {enc : TypeId × Value → H} {W : World} {base : Nat} {v : Value} {d : DataW H} {p : List MemPlace}
theorem type_cells {cs : List Value} {n : Nat} {y : DataW H × List MemPlace} (h : DataW.trod enc Tryz.prog W 0 (fun _ => true) true n 26 cs = some y) :
    ∃ (t : TypeC) (u : Value), cs = [.string (textQ t.1), .string (textQ t.2.1), u] ∧ ParsAt W W.heap.size u t.2.2 ∧ t.1.length ≤ maxLen ∧ t.2.1.length ≤ maxLen ∧ ∀ x ∈ t.2.2, x.1.length ≤ maxLen ∧ x.2.length ≤ maxLen := by
  obtain ⟨xs, m, _, hx, hl, hlen, hf⟩ := DataW.trod_struct Tryz.underlying26 h
  have e3 : Tryz.prog.cellsOf 26 = 3 := by kernel_rfl
  have e1s : Tryz.prog.cellsOf 9 = 1 := by kernel_rfl
  have e1p : Tryz.prog.cellsOf 24 = 1 := by kernel_rfl
  rw [e3] at hl
  match cs, hl, xs, hlen with
  | [a0, a1, a2], _, [y0, y1, y2], _ =>
    have h0 : DataW.trod enc Tryz.prog W 0 (fun _ => true) true m 9 (([a0, a1, a2].drop 0).take (Tryz.prog.cellsOf 9)) = some y0 := hf 0 _ rfl
    rw [e1s] at h0
    have h1 : DataW.trod enc Tryz.prog W 0 (fun _ => true) true m 9 (([a0, a1, a2].drop 1).take (Tryz.prog.cellsOf 9)) = some y1 := hf 1 _ rfl
    rw [e1s] at h1
    have h2 : DataW.trod enc Tryz.prog W 0 (fun _ => true) true m 24 (([a0, a1, a2].drop 2).take (Tryz.prog.cellsOf 24)) = some y2 := hf 2 _ rfl
    rw [e1p] at h2
    obtain ⟨k, q0, _, w0⟩ := DataW.trod_string Tryz.underlying9 (show DataW.trod enc Tryz.prog W 0 (fun _ => true) true m 9 [a0] = some y0 from h0)
    obtain ⟨v, q1, _, w1⟩ := DataW.trod_string Tryz.underlying9 (show DataW.trod enc Tryz.prog W 0 (fun _ => true) true m 9 [a1] = some y1 from h1)
    obtain ⟨u, ps, q2, hat, hsm, _⟩ := pars_trod (show DataW.trod enc Tryz.prog W 0 (fun _ => true) true m 24 [a2] = some y2 from h2)
    simp only [List.cons.injEq, and_true] at q0 q1 q2
    subst q0 q1 q2
    exact ⟨(k.data.toList, v.data.toList, ps), _, rfl, hat, w0, w1, hsm⟩
/-- A part's cells, whatever stands within it. -/
def PartCells (W : World) (n : Nat) (cs : List Value) : Prop := ∃ (fv pv rv : Value) (p : TreeM), cs = [fv, .string (textQ p.typ.1), .string (textQ p.typ.2.1), pv, .string (textQ p.body), rv] ∧
  FieldsP W (· < W.heap.size) fv p.fields ∧ ParsP W (· < W.heap.size) pv p.typ.2.2 ∧ PartsN W (· < W.heap.size) n rv p.parts ∧ ∀ q ∈ nodesM p, BigN q
theorem nodess_big {l : List TreeM} (h : ∀ p ∈ l, ∀ q ∈ nodesM p, BigN q) : ∀ q ∈ nodessM l, BigN q := fun q hq => by
  obtain ⟨r, hr, hq⟩ := nodess_ofF hq
  exact h r hr q hq
theorem part_cells : ∀ (n : Nat) {cs : List Value} {y : DataW H × List MemPlace}, DataW.trod enc Tryz.prog W 0 (fun _ => true) true n 29 cs = some y → PartCells W n cs := by
  intro n
  induction n using Nat.strongRecOn with
  | ind n ih =>
    intro cs y h
    obtain ⟨xs, m, hnm, hx, hl, hlen, hf⟩ := DataW.trod_struct Tryz.underlying29 h
    have e6 : Tryz.prog.cellsOf 29 = 6 := by kernel_rfl
    have e1f : Tryz.prog.cellsOf 23 = 1 := by kernel_rfl
    have e3 : Tryz.prog.cellsOf 26 = 3 := by kernel_rfl
    have e1s : Tryz.prog.cellsOf 9 = 1 := by kernel_rfl
    have e1p : Tryz.prog.cellsOf 27 = 1 := by kernel_rfl
    rw [e6] at hl
    match cs, hl, xs, hlen with
    | [a0, a1, a2, a3, a4, a5], _, [y0, y1, y2, y3], _ =>
      have h0 : DataW.trod enc Tryz.prog W 0 (fun _ => true) true m 23 (([a0, a1, a2, a3, a4, a5].drop 0).take (Tryz.prog.cellsOf 23)) = some y0 := hf 0 _ rfl
      rw [e1f] at h0
      have h1 : DataW.trod enc Tryz.prog W 0 (fun _ => true) true m 26 (([a0, a1, a2, a3, a4, a5].drop 1).take (Tryz.prog.cellsOf 26)) = some y1 := hf 1 _ rfl
      rw [e3] at h1
      have h2 : DataW.trod enc Tryz.prog W 0 (fun _ => true) true m 9 (([a0, a1, a2, a3, a4, a5].drop 4).take (Tryz.prog.cellsOf 9)) = some y2 := hf 2 _ rfl
      rw [e1s] at h2
      have h3 : DataW.trod enc Tryz.prog W 0 (fun _ => true) true m 27 (([a0, a1, a2, a3, a4, a5].drop 5).take (Tryz.prog.cellsOf 27)) = some y3 := hf 3 _ rfl
      rw [e1p] at h3
      obtain ⟨fv, l, q0, hat, hsm, _⟩ := fields_trod (show DataW.trod enc Tryz.prog W 0 (fun _ => true) true m 23 [a0] = some y0 from h0)
      obtain ⟨t, u, q1, hpa, s1, s2, s3⟩ := type_cells (show DataW.trod enc Tryz.prog W 0 (fun _ => true) true m 26 [a1, a2, a3] = some y1 from h1)
      obtain ⟨bd, q2, _, w2⟩ := DataW.trod_string Tryz.underlying9 (show DataW.trod enc Tryz.prog W 0 (fun _ => true) true m 9 [a4] = some y2 from h2)
      simp only [List.cons.injEq, and_true] at q0 q1 q2
      obtain ⟨rfl, rfl, rfl⟩ := q1
      subst q0 q2
      have hrow : ∃ kids : List TreeM, PartsN W (· < W.heap.size) m a5 kids ∧ ∀ p ∈ kids, ∀ q ∈ nodesM p, BigN q := by
        rcases DataW.trod_slice Tryz.underlying27 (show DataW.trod enc Tryz.prog W 0 (fun _ => true) true m 27 [a5] = some y3 from h3) with ⟨hcs, _⟩ | ⟨ad, len, cap, elems, rest, k, rfl, hcs, _, _, hl2, hm2, hel, hi, _⟩
        · simp only [List.cons.injEq, and_true] at hcs
          subst hcs
          exact ⟨[], partsN_more 0 m (Nat.zero_le _) ⟨none, 0, rfl, by simp [maxLen], rfl⟩, fun p hp => by cases hp⟩
        · simp only [List.cons.injEq, and_true] at hcs
          subst hcs
          rw [e6] at hi
          have hall : ∀ i, i < len → ∃ x : KidM, (∀ j, j < 6 → W.cell? ((ad.add (i * 6)).add j) = (kidCells x)[j]?) ∧ FieldsP W (· < W.heap.size) x.2.1 x.1.fields ∧ ParsP W (· < W.heap.size) x.2.2.1 x.1.typ.2.2 ∧ PartsN W (· < W.heap.size) k x.2.2.2 x.1.parts ∧ ∀ q ∈ nodesM x.1, BigN q := fun i hlt => by
            have hb := hi i hlt
            rw [List.getElem?_eq_getElem (by omega)] at hb
            obtain ⟨cs', hc, ht⟩ := Option.bind_eq_some_iff.1 hb
            obtain ⟨fv', pv', rv', p', rfl, r1, r2, r3, r4⟩ := ih k (by omega) ht
            obtain ⟨_, _, hat'⟩ := World.cells?_some hc
            exact ⟨(p', fv', pv', rv'), fun j hj => hat' j hj, r1, r2, r3, r4⟩
          have hch : ∃ f : Nat → KidM, ∀ i, i < len → (∀ j, j < 6 → W.cell? ((ad.add (i * 6)).add j) = (kidCells (f i))[j]?) ∧ FieldsP W (· < W.heap.size) (f i).2.1 (f i).1.fields ∧ ParsP W (· < W.heap.size) (f i).2.2.1 (f i).1.typ.2.2 ∧ PartsN W (· < W.heap.size) k (f i).2.2.2 (f i).1.parts ∧ ∀ q ∈ nodesM (f i).1, BigN q := by
            classical
            refine ⟨fun i => if h : i < len then (hall i h).choose else (nilM, .slice none 0 0, .slice none 0 0, .slice none 0 0), fun i hlt => ?_⟩
            simp only [dif_pos hlt]
            exact (hall i hlt).choose_spec
          obtain ⟨f, hf2⟩ := hch
          have hlen2 : ((List.range len).map fun i => (f i).1).length = len := by simp
          refine ⟨(List.range len).map fun i => (f i).1, ⟨some ad, cap, by rw [hlen2], by rw [hlen2]; exact hl2, hm2, fun i hi2 => ?_⟩, fun p hp => ?_⟩
          · rw [hlen2] at hi2
            have hc0 := (hf2 0 (by omega)).1 0 (by omega)
            have hadd : (ad.add (0 * 6)).add 0 = ad := by simp [Addr.add]
            rw [hadd] at hc0
            have hsp := cell_spot hc0
            obtain ⟨b, off, sp⟩ := ad
            obtain rfl : sp = none := hsp
            have hblt : b < W.heap.size := cell_ltP hc0
            obtain ⟨hcj, r1, r2, r3, _⟩ := hf2 i hi2
            simp only [Addr.add_lit] at hcj
            simp only [List.getElem_map, List.getElem_range]
            exact ⟨b, off, (f i).2.1, (f i).2.2.1, (f i).2.2.2, rfl, hblt, hcj 0 (by omega), hcj 1 (by omega), hcj 2 (by omega), hcj 3 (by omega), hcj 4 (by omega), hcj 5 (by omega), r1, r2, r3⟩
          · obtain ⟨i, hi', rfl⟩ := List.mem_map.1 hp
            exact (hf2 i (List.mem_range.1 hi')).2.2.2.2
      obtain ⟨kids, hk1, hk2⟩ := hrow
      refine ⟨_, _, _, .mk l t bd.data.toList kids, rfl, fields_ofAt hat, pars_ofAt hpa, partsN_more m n (by omega) hk1, fun q hq => ?_⟩
      rw [nodes_parts] at hq
      rcases List.mem_cons.1 hq with rfl | hq
      · exact ⟨hsm, s1, s2, s3, w2⟩
      · exact nodess_big hk2 q hq
/-- A tree that is handed over. -/
theorem open_part (hv : Value.okWide Tryz.prog W .any base 29 v) (h : DataW.Trod enc Tryz.prog W 0 (fun _ => true) true 29 v d p) :
    ∃ (q : TreeM) (fv pv rv : Value), v = partV q fv pv rv ∧ TreeAt W W.heap.size q fv pv rv ∧ ∀ x ∈ nodesM q, BigN x := by
  obtain ⟨cs, rfl, hsz⟩ := okWide_struct Tryz.underlying29 hv
  obtain ⟨fuel, hf⟩ := h
  obtain ⟨fv, pv, rv, q, e, h1, h2, h3, h4⟩ := part_cells fuel (show DataW.trod enc Tryz.prog W 0 (fun _ => true) true fuel 29 cs.toList = some (d, p) by simpa [Value.cells] using hf)
  refine ⟨q, fv, pv, rv, ?_, ⟨h1, h2, _, h3⟩, h4⟩
  unfold partV
  congr 1
  exact Array.toList_inj.1 e
end
end Go.Proofs.YtidlpdiephlkhaaGreatDoor
