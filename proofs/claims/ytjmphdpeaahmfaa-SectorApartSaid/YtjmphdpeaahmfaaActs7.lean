/-
  A row of acts that is handed over, opened: of each its five cells.
-/
import Derived.Test.YtjmphdpeaahmfaaArgs7
import Derived.Test.YtjmphdpeaahmfaaTurn
import Derived.Carry
import Derived.Deep.Slices
import Derived.Deep.Fields
import Derived.ChangeSame
namespace Go.Proofs.Ytjmphdpeaahmfaa
set_option maxRecDepth 100000
open Go.ChangeShapes Go.WideShapes Go.ChangeAt Go.RowKit Go.Joins Go.Deep

/-- An act: its kind, its place, its text, its cut. -/
structure ActS where
  kind : Int
  pos : Int
  data : ByteArray
  ca : Int
  ct : Int
/-- A row of acts in memory. -/
def Acts (w : World) (A : Option Addr) (n : Nat) (la : List ActS) : Prop :=
  la.length = n ∧ (∀ a ∈ la, a.data.size ≤ maxLen) ∧ (n = 0 ∨ ∃ b off, A = some ⟨b, off, none⟩ ∧ b < w.heap.size ∧ ∀ i (h : i < la.length),
    w.cell? ⟨b, off + i * 5, none⟩ = some (.int .i64 la[i].kind) ∧ w.cell? ⟨b, off + i * 5 + 1, none⟩ = some (.int .i64 la[i].pos) ∧ w.cell? ⟨b, off + i * 5 + 2, none⟩ = some (.string la[i].data) ∧
    w.cell? ⟨b, off + i * 5 + 3, none⟩ = some (.int .i64 la[i].ca) ∧ w.cell? ⟨b, off + i * 5 + 4, none⟩ = some (.int .i64 la[i].ct))
theorem Acts.below {w w' : World} {B : Nat} {A : Option Addr} {n : Nat} {la : List ActS} (h : Acts w A n la) (hb : Below B w w') (hB : w.heap.size ≤ B) : Acts w' A n la := by
  obtain ⟨h1, h2, h3⟩ := h
  refine ⟨h1, h2, h3.imp id ?_⟩
  rintro ⟨b, off, q1, q2, q3⟩
  refine ⟨b, off, q1, Nat.lt_of_lt_of_le q2 hb.size, fun i hi => ?_⟩
  obtain ⟨a1, a2, a3, a4, a5⟩ := q3 i hi
  have hc : ∀ j, w'.cell? ⟨b, j, none⟩ = w.cell? ⟨b, j, none⟩ := fun j => hb.cell (p := ⟨b, j, none⟩) (by show b < B; omega)
  exact ⟨(hc _).trans a1, (hc _).trans a2, (hc _).trans a3, (hc _).trans a4, (hc _).trans a5⟩

section
variable {H : Type} {enc : TypeId × Value → H} {W : World} {base : Nat} {v : Value} {d : DataW H} {p : List MemPlace}
theorem spot_none {w : World} {a : Addr} {v : Value} (h : w.cell? a = some v) : a.spot = none := by
  obtain ⟨b, off, sp⟩ := a
  cases sp with
  | none => rfl
  | some x =>
    simp [World.cell?] at h
    split at h <;> simp at h
theorem act_cells {cs : List Value} {n : Nat} {y : DataW H × List MemPlace} (h : DataW.trod enc Try.prog W 0 (fun _ => true) true n 36 cs = some y) :
    ∃ a : ActS, cs = [.int .i64 a.kind, .int .i64 a.pos, .string a.data, .int .i64 a.ca, .int .i64 a.ct] ∧ a.data.size ≤ maxLen := by
  obtain ⟨xs, m, _, hx, hl, hlen, hf⟩ := DataW.trod_struct Try.underlying36 h
  have e5 : Try.prog.cellsOf 36 = 5 := by kernel_rfl
  have e1 : Try.prog.cellsOf 3 = 1 := by kernel_rfl
  have e1s : Try.prog.cellsOf 9 = 1 := by kernel_rfl
  have e2 : Try.prog.cellsOf 31 = 2 := by kernel_rfl
  rw [e5] at hl
  match cs, hl, xs, hlen with
  | [a0, a1, a2, a3, a4], _, [y0, y1, y2, y3], _ =>
    have h0 : DataW.trod enc Try.prog W 0 (fun _ => true) true m 3 (([a0, a1, a2, a3, a4].drop 0).take (Try.prog.cellsOf 3)) = some y0 := hf 0 _ rfl
    rw [e1] at h0
    have h1 : DataW.trod enc Try.prog W 0 (fun _ => true) true m 3 (([a0, a1, a2, a3, a4].drop 1).take (Try.prog.cellsOf 3)) = some y1 := hf 1 _ rfl
    rw [e1] at h1
    have h2 : DataW.trod enc Try.prog W 0 (fun _ => true) true m 9 (([a0, a1, a2, a3, a4].drop 2).take (Try.prog.cellsOf 9)) = some y2 := hf 2 _ rfl
    rw [e1s] at h2
    have h3 : DataW.trod enc Try.prog W 0 (fun _ => true) true m 31 (([a0, a1, a2, a3, a4].drop 3).take (Try.prog.cellsOf 31)) = some y3 := hf 3 _ rfl
    rw [e2] at h3
    obtain ⟨k, q0, _, w0⟩ := DataW.trod_int Try.underlying3 (show DataW.trod enc Try.prog W 0 (fun _ => true) true m 3 [a0] = some y0 from h0)
    obtain ⟨ps, q1, _, w1⟩ := DataW.trod_int Try.underlying3 (show DataW.trod enc Try.prog W 0 (fun _ => true) true m 3 [a1] = some y1 from h1)
    obtain ⟨s, q2, _, w2⟩ := DataW.trod_string Try.underlying9 (show DataW.trod enc Try.prog W 0 (fun _ => true) true m 9 [a2] = some y2 from h2)
    obtain ⟨z0, z1, m2, _, _, g0, g1⟩ := trod_struct2 Try.underlying31 (show DataW.trod enc Try.prog W 0 (fun _ => true) true m 31 [a3, a4] = some y3 from h3)
    replace g0 : DataW.trod enc Try.prog W 0 (fun _ => true) true m2 3 (([a3, a4].drop 0).take (Try.prog.cellsOf 3)) = some z0 := g0
    replace g1 : DataW.trod enc Try.prog W 0 (fun _ => true) true m2 3 (([a3, a4].drop 1).take (Try.prog.cellsOf 3)) = some z1 := g1
    rw [e1] at g0 g1
    obtain ⟨ca, q3, _, w3⟩ := DataW.trod_int Try.underlying3 (show DataW.trod enc Try.prog W 0 (fun _ => true) true m2 3 [a3] = some z0 from g0)
    obtain ⟨ct, q4, _, w4⟩ := DataW.trod_int Try.underlying3 (show DataW.trod enc Try.prog W 0 (fun _ => true) true m2 3 [a4] = some z1 from g1)
    simp only [List.cons.injEq, and_true] at q0 q1 q2 q3 q4
    subst q0 q1 q2 q3 q4
    refine ⟨⟨k, ps, s, ca, ct⟩, rfl, ?_⟩
    exact w2
theorem open_acts (hv : Value.okWide Try.prog W .any base 22 v) (h : DataW.Trod enc Try.prog W 0 (fun _ => true) true 22 v d p) :
    ∃ A n c la, v = .slice A n c ∧ Acts W A n la := by
  obtain ⟨a, l, c, rfl⟩ := okWide_slice Try.underlying22 hv
  obtain ⟨fuel, h⟩ := h
  have h2 : DataW.trod enc Try.prog W 0 (fun _ => true) true fuel 22 [.slice a l c] = some (d, p) := by simpa [Value.cells] using h
  rcases open_slice Try.underlying22 h2 with ⟨hcs, _⟩ | ⟨ad, len, cap, m, n, D, Pl, hcs, _, hl, hm, hmm, hx, hi⟩
  · simp only [List.cons.injEq, and_true] at hcs
    exact ⟨none, 0, 0, [], hcs, rfl, by simp, .inl rfl⟩
  · simp only [List.cons.injEq, and_true] at hcs
    simp only [if_true] at hmm
    have e5 : Try.prog.cellsOf 36 = 5 := by kernel_rfl
    rw [e5] at hi
    have hall : ∀ i, i < len → ∃ x : ActS, x.data.size ≤ maxLen ∧ ∀ j, j < 5 → W.cell? ((ad.add (i * 5)).add j) = [Value.int .i64 x.kind, .int .i64 x.pos, .string x.data, .int .i64 x.ca, .int .i64 x.ct][j]? := fun i hlt => by
      obtain ⟨cs', hc, ht⟩ := hi i (by omega)
      obtain ⟨x, rfl, hs⟩ := act_cells ht
      obtain ⟨_, _, hat⟩ := World.cells?_some hc
      exact ⟨x, hs, fun j hj => hat j hj⟩
    have hch : ∃ f : Nat → ActS, ∀ i, i < len → (f i).data.size ≤ maxLen ∧ ∀ j, j < 5 → W.cell? ((ad.add (i * 5)).add j) = [Value.int .i64 (f i).kind, .int .i64 (f i).pos, .string (f i).data, .int .i64 (f i).ca, .int .i64 (f i).ct][j]? := by
      classical
      refine ⟨fun i => if h : i < len then (hall i h).choose else ⟨0, 0, ByteArray.empty, 0, 0⟩, fun i hlt => ?_⟩
      simp only [dif_pos hlt]
      exact (hall i hlt).choose_spec
    obtain ⟨f, hf⟩ := hch
    refine ⟨some ad, len, cap, (List.range len).map f, hcs, by simp, ?_, ?_⟩
    · intro x hx
      obtain ⟨i, hi', rfl⟩ := List.mem_map.1 hx
      exact (hf i (List.mem_range.1 hi')).1
    · rcases Nat.eq_zero_or_pos len with h0 | h0
      · exact .inl h0
      · have hc0 := (hf 0 h0).2 0 (by omega)
        have hadd : (ad.add (0 * 5)).add 0 = ad := by simp [Addr.add]
        rw [hadd] at hc0
        have hsp := spot_none hc0
        obtain ⟨b, off, sp⟩ := ad
        obtain rfl : sp = none := hsp
        have hblt : b < W.heap.size := by
          rcases Nat.lt_or_ge b W.heap.size with h1 | h1
          · exact h1
          · rw [World.cell?, Array.getElem?_eq_none h1] at hc0
            simp at hc0
        refine .inr ⟨b, off, rfl, hblt, fun i hlt => ?_⟩
        have hlt' : i < len := by simpa using hlt
        have hcj := (hf i hlt').2
        simp only [Addr.add_lit] at hcj
        simp only [List.getElem_map, List.getElem_range]
        exact ⟨hcj 0 (by omega), hcj 1 (by omega), hcj 2 (by omega), hcj 3 (by omega), hcj 4 (by omega)⟩
end
end Go.Proofs.Ytjmphdpeaahmfaa
