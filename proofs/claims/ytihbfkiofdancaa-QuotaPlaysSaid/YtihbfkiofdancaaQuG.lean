/-
  Numbers and acts that are handed over, opened.
-/
import Derived.Test.YtihbfkiofdancaaQuE
import Derived.Test.YtihbfkiofdancaaArgs4
import Derived.Carry
import Derived.Deep.Slices
import Derived.Deep.Fields
import Derived.ChangeSame
namespace Go.Proofs.Ytihbfkiofdancaa
set_option maxRecDepth 100000
open Go.ChangeShapes Go.WideShapes Go.ChangeAt Go.RowKit Go.Joins Go.Deep

/-- An act: its kind, its level, its number. -/
structure ActQ where
  kind : Int
  lev : Int
  amt : Int
/-- A row of acts in memory. -/
def ActsQ (w : World) (A : Option Addr) (n : Nat) (la : List ActQ) : Prop :=
  la.length = n ∧ (∀ a ∈ la, -9223372036854775808 ≤ a.amt ∧ a.amt ≤ 9223372036854775807) ∧ (n = 0 ∨ ∃ b off, A = some ⟨b, off, none⟩ ∧ b < w.heap.size ∧ ∀ i (h : i < la.length),
    w.cell? ⟨b, off + i * 3, none⟩ = some (.int .i64 la[i].kind) ∧ w.cell? ⟨b, off + i * 3 + 1, none⟩ = some (.int .i64 la[i].lev) ∧ w.cell? ⟨b, off + i * 3 + 2, none⟩ = some (.int .i64 la[i].amt))
theorem ActsQ.below {w w' : World} {B : Nat} {A : Option Addr} {n : Nat} {la : List ActQ} (h : ActsQ w A n la) (hb : Below B w w') (hB : w.heap.size ≤ B) : ActsQ w' A n la := by
  obtain ⟨h1, h2, h3⟩ := h
  refine ⟨h1, h2, h3.imp id ?_⟩
  rintro ⟨b, off, q1, q2, q3⟩
  refine ⟨b, off, q1, Nat.lt_of_lt_of_le q2 hb.size, fun i hi => ?_⟩
  obtain ⟨a1, a2, a3⟩ := q3 i hi
  have hc : ∀ j, w'.cell? ⟨b, j, none⟩ = w.cell? ⟨b, j, none⟩ := fun j => hb.cell (p := ⟨b, j, none⟩) (by show b < B; omega)
  exact ⟨(hc _).trans a1, (hc _).trans a2, (hc _).trans a3⟩
/-- An act of a row, wherever a call has left what lay there. -/
theorem ActsQ.at_ {w : World} {A : Option Addr} {n : Nat} {la : List ActQ} (h : ActsQ w A n la) {i : Nat} (hi : i < n) : ∃ (b off : Nat) (k l m : Int), A = some ⟨b, off, none⟩ ∧ b < w.heap.size ∧ -9223372036854775808 ≤ m ∧ m ≤ 9223372036854775807 ∧
    ∀ W, Below w.heap.size w W → W.cell? ⟨b, off + i * 3, none⟩ = some (.int .i64 k) ∧ W.cell? ⟨b, off + i * 3 + 1, none⟩ = some (.int .i64 l) ∧ W.cell? ⟨b, off + i * 3 + 2, none⟩ = some (.int .i64 m) := by
  obtain ⟨h1, h2, h3⟩ := h
  rcases h3 with h3 | ⟨b, off, q1, q2, q3⟩
  · omega
  · have hl : i < la.length := by omega
    obtain ⟨m1, m2⟩ := h2 _ (List.getElem_mem hl)
    refine ⟨b, off, la[i].kind, la[i].lev, la[i].amt, q1, q2, m1, m2, fun W hW => ?_⟩
    obtain ⟨a1, a2, a3⟩ := q3 i hl
    have hc : ∀ j, W.cell? ⟨b, j, none⟩ = w.cell? ⟨b, j, none⟩ := fun j => hW.cell (p := ⟨b, j, none⟩) q2
    exact ⟨(hc _).trans a1, (hc _).trans a2, (hc _).trans a3⟩

theorem i64_of {i : Int} (h : (Lit.int .i64 i).wf = true) : -9223372036854775808 ≤ i ∧ i ≤ 9223372036854775807 := by
  simp only [Lit.wf, Bool.and_eq_true, decide_eq_true_eq] at h
  have e1 : IntKind.i64.min = -9223372036854775808 := by decide
  have e2 : IntKind.i64.max = 9223372036854775807 := by decide
  omega

section
variable {H : Type} {enc : TypeId × Value → H} {W : World} {base : Nat} {v : Value} {d : DataW H} {p : List MemPlace}
theorem spot_noneQ {w : World} {a : Addr} {v : Value} (h : w.cell? a = some v) : a.spot = none := by
  obtain ⟨b, off, sp⟩ := a
  cases sp with
  | none => rfl
  | some x =>
    simp [World.cell?] at h
    split at h <;> simp at h
theorem lt_size {w : World} {b off : Nat} {v : Value} (h : w.cell? ⟨b, off, none⟩ = some v) : b < w.heap.size := by
  rcases Nat.lt_or_ge b w.heap.size with h1 | h1
  · exact h1
  · rw [World.cell?, Array.getElem?_eq_none h1] at h
    simp at h
theorem act_cellsQ {cs : List Value} {n : Nat} {y : DataW H × List MemPlace} (h : DataW.trod enc Try.prog W 0 (fun _ => true) true n 34 cs = some y) :
    ∃ a : ActQ, cs = [.int .i64 a.kind, .int .i64 a.lev, .int .i64 a.amt] ∧ -9223372036854775808 ≤ a.amt ∧ a.amt ≤ 9223372036854775807 := by
  obtain ⟨xs, m, _, hx, hl, hlen, hf⟩ := DataW.trod_struct Try.underlying34 h
  have e3 : Try.prog.cellsOf 34 = 3 := by kernel_rfl
  have e1 : Try.prog.cellsOf 3 = 1 := by kernel_rfl
  rw [e3] at hl
  match cs, hl, xs, hlen with
  | [a0, a1, a2], _, [y0, y1, y2], _ =>
    have h0 : DataW.trod enc Try.prog W 0 (fun _ => true) true m 3 (([a0, a1, a2].drop 0).take (Try.prog.cellsOf 3)) = some y0 := hf 0 _ rfl
    have h1 : DataW.trod enc Try.prog W 0 (fun _ => true) true m 3 (([a0, a1, a2].drop 1).take (Try.prog.cellsOf 3)) = some y1 := hf 1 _ rfl
    have h2 : DataW.trod enc Try.prog W 0 (fun _ => true) true m 3 (([a0, a1, a2].drop 2).take (Try.prog.cellsOf 3)) = some y2 := hf 2 _ rfl
    rw [e1] at h0 h1 h2
    obtain ⟨k, q0, _, w0⟩ := DataW.trod_int Try.underlying3 (show DataW.trod enc Try.prog W 0 (fun _ => true) true m 3 [a0] = some y0 from h0)
    obtain ⟨l, q1, _, w1⟩ := DataW.trod_int Try.underlying3 (show DataW.trod enc Try.prog W 0 (fun _ => true) true m 3 [a1] = some y1 from h1)
    obtain ⟨t, q2, _, w2⟩ := DataW.trod_int Try.underlying3 (show DataW.trod enc Try.prog W 0 (fun _ => true) true m 3 [a2] = some y2 from h2)
    simp only [List.cons.injEq, and_true] at q0 q1 q2
    subst q0 q1 q2
    exact ⟨⟨k, l, t⟩, rfl, i64_of w2⟩
theorem open_actsQ (hv : Value.okWide Try.prog W .any base 23 v) (h : DataW.Trod enc Try.prog W 0 (fun _ => true) true 23 v d p) :
    ∃ A n c la, v = .slice A n c ∧ ActsQ W A n la := by
  obtain ⟨a, l, c, rfl⟩ := okWide_slice Try.underlying23 hv
  obtain ⟨fuel, h⟩ := h
  have h2 : DataW.trod enc Try.prog W 0 (fun _ => true) true fuel 23 [.slice a l c] = some (d, p) := by simpa [Value.cells] using h
  rcases open_slice Try.underlying23 h2 with ⟨hcs, _⟩ | ⟨ad, len, cap, m, n, D, Pl, hcs, _, hl, hm, hmm, hx, hi⟩
  · simp only [List.cons.injEq, and_true] at hcs
    exact ⟨none, 0, 0, [], hcs, rfl, by simp, .inl rfl⟩
  · simp only [List.cons.injEq, and_true] at hcs
    simp only [if_true] at hmm
    have e3 : Try.prog.cellsOf 34 = 3 := by kernel_rfl
    rw [e3] at hi
    have hall : ∀ i, i < len → ∃ x : ActQ, (-9223372036854775808 ≤ x.amt ∧ x.amt ≤ 9223372036854775807) ∧ ∀ j, j < 3 → W.cell? ((ad.add (i * 3)).add j) = [Value.int .i64 x.kind, .int .i64 x.lev, .int .i64 x.amt][j]? := fun i hlt => by
      obtain ⟨cs', hc, ht⟩ := hi i (by omega)
      obtain ⟨x, rfl, hs⟩ := act_cellsQ ht
      obtain ⟨_, _, hat⟩ := World.cells?_some hc
      exact ⟨x, hs, fun j hj => hat j hj⟩
    have hch : ∃ f : Nat → ActQ, ∀ i, i < len → (-9223372036854775808 ≤ (f i).amt ∧ (f i).amt ≤ 9223372036854775807) ∧ ∀ j, j < 3 → W.cell? ((ad.add (i * 3)).add j) = [Value.int .i64 (f i).kind, .int .i64 (f i).lev, .int .i64 (f i).amt][j]? := by
      classical
      refine ⟨fun i => if h : i < len then (hall i h).choose else ⟨0, 0, 0⟩, fun i hlt => ?_⟩
      simp only [dif_pos hlt]
      exact (hall i hlt).choose_spec
    obtain ⟨f, hf⟩ := hch
    refine ⟨some ad, len, cap, (List.range len).map f, hcs, by simp, ?_, ?_⟩
    · intro x hx
      obtain ⟨i, hi', rfl⟩ := List.mem_map.1 hx
      exact (hf i (List.mem_range.1 hi')).1
    · rcases Nat.eq_zero_or_pos len with h0 | h0
      · exact .inl h0
      · have hc0 := (hf 0 h0).2 0 (by omega)
        have hadd : (ad.add (0 * 3)).add 0 = ad := by simp [Addr.add]
        rw [hadd] at hc0
        have hsp := spot_noneQ hc0
        obtain ⟨b, off, sp⟩ := ad
        obtain rfl : sp = none := hsp
        refine .inr ⟨b, off, rfl, lt_size hc0, fun i hlt => ?_⟩
        have hlt' : i < len := by simpa using hlt
        have hcj := (hf i hlt').2
        simp only [Addr.add_lit] at hcj
        simp only [List.getElem_map, List.getElem_range]
        exact ⟨hcj 0 (by omega), hcj 1 (by omega), hcj 2 (by omega)⟩
theorem open_intsQ (hv : Value.okWide Try.prog W .any base 22 v) (h : DataW.Trod enc Try.prog W 0 (fun _ => true) true 22 v d p) :
    ∃ A n c lb, v = .slice A n c ∧ Ints W A n lb ∧ n ≤ c ∧ c ≤ maxLen := by
  obtain ⟨a, l, c, rfl⟩ := okWide_slice Try.underlying22 hv
  obtain ⟨fuel, h⟩ := h
  have h2 : DataW.trod enc Try.prog W 0 (fun _ => true) true fuel 22 [.slice a l c] = some (d, p) := by simpa [Value.cells] using h
  rcases open_slice Try.underlying22 h2 with ⟨hcs, _⟩ | ⟨ad, len, cap, m, n, D, Pl, hcs, _, hl, hm, hmm, hx, hi⟩
  · simp only [List.cons.injEq, and_true] at hcs
    exact ⟨none, 0, 0, [], hcs, ⟨rfl, .inl rfl⟩, Nat.le_refl _, by decide⟩
  · simp only [List.cons.injEq, and_true] at hcs
    simp only [if_true] at hmm
    have e3 : Try.prog.cellsOf 3 = 1 := by kernel_rfl
    rw [e3] at hi
    have hall : ∀ i, i < len → ∃ x : Int, W.cell? ((ad.add (i * 1)).add 0) = some (.int .i64 x) := fun i hlt => by
      obtain ⟨cs', hc, ht⟩ := hi i (by omega)
      obtain ⟨x, rfl, _, _⟩ := DataW.trod_int Try.underlying3 ht
      obtain ⟨_, _, hat⟩ := World.cells?_some hc
      exact ⟨x, hat 0 (by omega)⟩
    have hch : ∃ f : Nat → Int, ∀ i, i < len → W.cell? ((ad.add (i * 1)).add 0) = some (.int .i64 (f i)) := by
      classical
      refine ⟨fun i => if h : i < len then (hall i h).choose else 0, fun i hlt => ?_⟩
      simp only [dif_pos hlt]
      exact (hall i hlt).choose_spec
    obtain ⟨f, hf⟩ := hch
    refine ⟨some ad, len, cap, (List.range len).map f, hcs, ⟨by simp, ?_⟩, hl, hm⟩
    rcases Nat.eq_zero_or_pos len with h0 | h0
    · exact .inl h0
    · have hc0 := hf 0 h0
      have hadd : (ad.add (0 * 1)).add 0 = ad := by simp [Addr.add]
      rw [hadd] at hc0
      have hsp := spot_noneQ hc0
      obtain ⟨b, off, sp⟩ := ad
      obtain rfl : sp = none := hsp
      refine .inr ⟨b, off, rfl, lt_size hc0, fun i hlt => ?_⟩
      have hcj := hf i (by simpa using hlt)
      simp only [Addr.add_lit, Nat.add_zero, Nat.mul_one] at hcj
      simp only [List.getElem_map, List.getElem_range]
      exact hcj
end
end Go.Proofs.Ytihbfkiofdancaa
