/-
  Texts of this proof, put together: PtA, PtB.
-/
import Derived.Test.YtjikghndoklajaaGreatDoorZ21
import Derived.Test.YtjikghndoklajaaGreatDoorZ23
import Derived.Test.YtjikghndoklajaaGreatDoorZ08
import Derived.Test.YtjikghndoklajaaGreatDoorZ13
import Derived.Maps.AppendAt
namespace Go.Proofs.YtjikghndoklajaaGreatDoor
open Go.RowKit

theorem cell_ltP {w : World} {g j : Nat} {v : Value} (h : w.cell? ⟨g, j, none⟩ = some v) : g < w.heap.size := by
  rcases Nat.lt_or_ge g w.heap.size with h1 | h1
  · exact h1
  · rw [World.cell?, Array.getElem?_eq_none h1] at h
    simp at h
def FieldsP (w : World) (P : Nat → Prop) (v : Value) (l : List FieldH) : Prop :=
  ∃ ao cap, v = .slice ao l.length cap ∧ l.length ≤ cap ∧ cap ≤ maxLen ∧ ∀ i (hi : i < l.length), ∃ g off, ao = some ⟨g, off, none⟩ ∧ P g ∧
    w.cell? ⟨g, off + i * 2, none⟩ = some (.string (textQ l[i].1)) ∧ w.cell? ⟨g, off + i * 2 + 1, none⟩ = some (.string (textQ l[i].2))
def ParsP (w : World) (P : Nat → Prop) (v : Value) (l : List ParC) : Prop :=
  ∃ ao cap, v = .slice ao l.length cap ∧ l.length ≤ cap ∧ cap ≤ maxLen ∧ ∀ i (hi : i < l.length), ∃ g off, ao = some ⟨g, off, none⟩ ∧ P g ∧
    w.cell? ⟨g, off + i * 2, none⟩ = some (.string (textQ l[i].1)) ∧ w.cell? ⟨g, off + i * 2 + 1, none⟩ = some (.string (textQ l[i].2))
def PartsN (w : World) (P : Nat → Prop) : Nat → Value → List TreeM → Prop
  | 0, v, l => ∃ ao cap, v = .slice ao 0 cap ∧ cap ≤ maxLen ∧ l = []
  | n + 1, v, l => ∃ ao cap, v = .slice ao l.length cap ∧ l.length ≤ cap ∧ cap ≤ maxLen ∧ ∀ i (hi : i < l.length), ∃ g off fv pv rv, ao = some ⟨g, off, none⟩ ∧ P g ∧
      w.cell? ⟨g, off + i * 6, none⟩ = some fv ∧ w.cell? ⟨g, off + i * 6 + 1, none⟩ = some (.string (textQ l[i].typ.1)) ∧ w.cell? ⟨g, off + i * 6 + 2, none⟩ = some (.string (textQ l[i].typ.2.1)) ∧
      w.cell? ⟨g, off + i * 6 + 3, none⟩ = some pv ∧ w.cell? ⟨g, off + i * 6 + 4, none⟩ = some (.string (textQ l[i].body)) ∧ w.cell? ⟨g, off + i * 6 + 5, none⟩ = some rv ∧
      FieldsP w P fv l[i].fields ∧ ParsP w P pv l[i].typ.2.2 ∧ PartsN w P n rv l[i].parts
def PartsP (w : World) (P : Nat → Prop) (v : Value) (l : List TreeM) : Prop := ∃ n, PartsN w P n v l
def StayP (w : World) (P : Nat → Prop) (w' : World) (Q : Nat → Prop) : Prop := ∀ g, P g → g < w.heap.size → Q g ∧ ∀ j, w'.cell? ⟨g, j, none⟩ = w.cell? ⟨g, j, none⟩
section
variable {w w' : World} {P Q : Nat → Prop}
theorem FieldsP.to {v : Value} {l : List FieldH} (h : FieldsP w P v l) (hs : StayP w P w' Q) : FieldsP w' Q v l := by
  obtain ⟨ao, cap, h1, h2, h3, h4⟩ := h
  refine ⟨ao, cap, h1, h2, h3, fun i hi => ?_⟩
  obtain ⟨g, off, q1, q2, q3, q4⟩ := h4 i hi
  obtain ⟨r1, r2⟩ := hs g q2 (cell_ltP q3)
  exact ⟨g, off, q1, r1, (r2 _).trans q3, (r2 _).trans q4⟩
theorem ParsP.to {v : Value} {l : List ParC} (h : ParsP w P v l) (hs : StayP w P w' Q) : ParsP w' Q v l := by
  obtain ⟨ao, cap, h1, h2, h3, h4⟩ := h
  refine ⟨ao, cap, h1, h2, h3, fun i hi => ?_⟩
  obtain ⟨g, off, q1, q2, q3, q4⟩ := h4 i hi
  obtain ⟨r1, r2⟩ := hs g q2 (cell_ltP q3)
  exact ⟨g, off, q1, r1, (r2 _).trans q3, (r2 _).trans q4⟩
theorem partsN_to (hs : StayP w P w' Q) : ∀ (n : Nat) {v : Value} {l : List TreeM}, PartsN w P n v l → PartsN w' Q n v l
  | 0, _, _, h => h
  | n + 1, v, l, h => by
    obtain ⟨ao, cap, h1, h2, h3, h4⟩ := h
    refine ⟨ao, cap, h1, h2, h3, fun i hi => ?_⟩
    obtain ⟨g, off, fv, pv, rv, q1, q2, z0, z1, z2, z3, z4, z5, k1, k2, k3⟩ := h4 i hi
    obtain ⟨r1, hc⟩ := hs g q2 (cell_ltP z0)
    exact ⟨g, off, fv, pv, rv, q1, r1, (hc _).trans z0, (hc _).trans z1, (hc _).trans z2, (hc _).trans z3, (hc _).trans z4, (hc _).trans z5, k1.to hs, k2.to hs, partsN_to hs n k3⟩
theorem partsN_more : ∀ (n m : Nat) {v : Value} {l : List TreeM}, n ≤ m → PartsN w P n v l → PartsN w P m v l
  | 0, 0, _, _, _, h => h
  | 0, m + 1, _, _, _, h => by
    obtain ⟨ao, cap, rfl, h2, rfl⟩ := h
    exact ⟨ao, cap, rfl, Nat.zero_le _, h2, fun i hi => absurd hi (by simp)⟩
  | n + 1, m + 1, v, l, hnm, h => by
    obtain ⟨ao, cap, h1, h2, h3, h4⟩ := h
    refine ⟨ao, cap, h1, h2, h3, fun i hi => ?_⟩
    obtain ⟨g, off, fv, pv, rv, q1, q2, z0, z1, z2, z3, z4, z5, k1, k2, k3⟩ := h4 i hi
    exact ⟨g, off, fv, pv, rv, q1, q2, z0, z1, z2, z3, z4, z5, k1, k2, partsN_more n m (by omega) k3⟩
theorem PartsP.to {v : Value} {l : List TreeM} (h : PartsP w P v l) (hs : StayP w P w' Q) : PartsP w' Q v l := by
  obtain ⟨n, h⟩ := h
  exact ⟨n, partsN_to hs n h⟩
theorem PartsP.nil (w : World) (P : Nat → Prop) : PartsP w P (.slice none 0 0) [] := ⟨0, none, 0, rfl, by simp [maxLen], rfl⟩
theorem FieldsP.nil (w : World) (P : Nat → Prop) : FieldsP w P (.slice none 0 0) [] := ⟨none, 0, rfl, Nat.le_refl _, by simp [maxLen], fun i hi => absurd hi (by simp)⟩
theorem ParsP.nil (w : World) (P : Nat → Prop) : ParsP w P (.slice none 0 0) [] := ⟨none, 0, rfl, Nat.le_refl _, by simp [maxLen], fun i hi => absurd hi (by simp)⟩
theorem FieldsP.slice {v : Value} {l : List FieldH} (h : FieldsP w P v l) : ∃ ao cap, v = .slice ao l.length cap ∧ l.length ≤ cap ∧ cap ≤ maxLen := by
  obtain ⟨ao, cap, h1, h2, h3, _⟩ := h
  exact ⟨ao, cap, h1, h2, h3⟩
theorem ParsP.slice {v : Value} {l : List ParC} (h : ParsP w P v l) : ∃ ao cap, v = .slice ao l.length cap ∧ l.length ≤ cap ∧ cap ≤ maxLen := by
  obtain ⟨ao, cap, h1, h2, h3, _⟩ := h
  exact ⟨ao, cap, h1, h2, h3⟩
theorem PartsP.slice {v : Value} {l : List TreeM} (h : PartsP w P v l) : ∃ ao cap, v = .slice ao l.length cap ∧ l.length ≤ cap ∧ cap ≤ maxLen := by
  obtain ⟨n, h⟩ := h
  match n, h with
  | 0, h =>
    obtain ⟨ao, cap, rfl, h2, rfl⟩ := h
    exact ⟨ao, cap, rfl, Nat.zero_le _, h2⟩
  | n + 1, h =>
    obtain ⟨ao, cap, h1, h2, h3, _⟩ := h
    exact ⟨ao, cap, h1, h2, h3⟩
structure TreeP (w : World) (P : Nat → Prop) (p : TreeM) (fv pv rv : Value) : Prop where
  f : FieldsP w P fv p.fields
  t : ParsP w P pv p.typ.2.2
  r : PartsP w P rv p.parts
theorem TreeP.to {p : TreeM} {fv pv rv : Value} (h : TreeP w P p fv pv rv) (hs : StayP w P w' Q) : TreeP w' Q p fv pv rv := ⟨h.f.to hs, h.t.to hs, h.r.to hs⟩
theorem TreeP.slices {p : TreeM} {fv pv rv : Value} (h : TreeP w P p fv pv rv) : (∃ a n c, fv = .slice a n c) ∧ (∃ a n c, pv = .slice a n c) ∧ ∃ a n c, rv = .slice a n c := by
  obtain ⟨a, c, e, _⟩ := h.f.slice
  obtain ⟨a2, c2, e2, _⟩ := h.t.slice
  obtain ⟨a3, c3, e3, _⟩ := h.r.slice
  exact ⟨⟨_, _, _, e⟩, ⟨_, _, _, e2⟩, ⟨_, _, _, e3⟩⟩
theorem PartsP.cells {k : Nat} {ao : Option Addr} {cap : Nat} {l : List TreeM} (h : PartsP w P (.slice ao k cap) l) (i : Nat) (hi : i < l.length) : ∃ g off fv pv rv, ao = some ⟨g, off, none⟩ ∧ P g ∧
      w.cell? ⟨g, off + i * 6, none⟩ = some fv ∧ w.cell? ⟨g, off + i * 6 + 1, none⟩ = some (.string (textQ l[i].typ.1)) ∧ w.cell? ⟨g, off + i * 6 + 2, none⟩ = some (.string (textQ l[i].typ.2.1)) ∧
      w.cell? ⟨g, off + i * 6 + 3, none⟩ = some pv ∧ w.cell? ⟨g, off + i * 6 + 4, none⟩ = some (.string (textQ l[i].body)) ∧ w.cell? ⟨g, off + i * 6 + 5, none⟩ = some rv ∧
      TreeP w P l[i] fv pv rv := by
  obtain ⟨n, h⟩ := h
  match n, h with
  | 0, h =>
    obtain ⟨_, _, _, _, rfl⟩ := h
    exact absurd hi (by simp)
  | n + 1, h =>
    obtain ⟨ao2, cap2, e, _, _, h4⟩ := h
    cases e
    obtain ⟨g, off, fv, pv, rv, q1, q2, z0, z1, z2, z3, z4, z5, k1, k2, k3⟩ := h4 i hi
    exact ⟨g, off, fv, pv, rv, q1, q2, z0, z1, z2, z3, z4, z5, k1, k2, n, k3⟩
theorem stay_below {B B' : Nat} (hb : Below B' w w') (hB : B ≤ B') : StayP w (· < B) w' (· < B) := fun g hg _ => ⟨hg, fun j => hb.cell (p := ⟨g, j, none⟩) (by show g < B'; omega)⟩
theorem stay_all (hb : Below w.heap.size w w') : StayP w P w' P := fun g hg hl => ⟨hg, fun j => hb.cell (p := ⟨g, j, none⟩) hl⟩
theorem stay_self (h : ∀ g, P g → g < w.heap.size → Q g) : StayP w P w Q := fun g hg hl => ⟨h g hg hl, fun _ => rfl⟩
theorem StayP.trans {w2 : World} {R : Nat → Prop} (h : StayP w P w' Q) (k : StayP w' Q w2 R) (hsz : w.heap.size ≤ w'.heap.size) : StayP w P w2 R := fun g hg hl => by
  obtain ⟨h1, h2⟩ := h g hg hl
  obtain ⟨k1, k2⟩ := k g h1 (by omega)
  exact ⟨k1, fun j => (k2 j).trans (h2 j)⟩
theorem FieldsP.at {v : Value} {l : List FieldH} (h : FieldsP w P v l) : FieldsAt w w.heap.size v l := h.to (Q := (· < w.heap.size)) (stay_self fun _ _ h => h)
theorem ParsP.at {v : Value} {l : List ParC} (h : ParsP w P v l) : ParsAt w w.heap.size v l := h.to (Q := (· < w.heap.size)) (stay_self fun _ _ h => h)
end
theorem FieldsOwn.new {w : World} {B : Nat} {v : Value} {l : List FieldH} (h : FieldsOwn w B v l) : FieldsP w (fun g => B ≤ g) v l := by
  have hat := FieldsOwn.at h
  obtain ⟨ao, cap, rfl, h2, h3, h4⟩ := hat
  refine ⟨ao, cap, rfl, h2, h3, fun i hi => ?_⟩
  obtain ⟨g, off, rfl, _, q3, q4⟩ := h4 i hi
  exact ⟨g, off, rfl, (h.lt g rfl).1, q3, q4⟩
theorem ParsOwn.new {w : World} {B : Nat} {v : Value} {l : List ParC} (h : ParsOwn w B v l) : ParsP w (fun g => B ≤ g) v l := by
  have hat := ParsOwn.at h
  obtain ⟨ao, cap, rfl, h2, h3, h4⟩ := hat
  refine ⟨ao, cap, rfl, h2, h3, fun i hi => ?_⟩
  obtain ⟨g, off, rfl, _, q3, q4⟩ := h4 i hi
  exact ⟨g, off, rfl, (h.lt g rfl).1, q3, q4⟩
abbrev PartsAt (w : World) (B : Nat) (v : Value) (l : List TreeM) : Prop := PartsP w (· < B) v l
abbrev TreeAt (w : World) (B : Nat) (p : TreeM) (fv pv rv : Value) : Prop := TreeP w (· < B) p fv pv rv
theorem TreeP.at {w : World} {P : Nat → Prop} {p : TreeM} {fv pv rv : Value} (h : TreeP w P p fv pv rv) : TreeAt w w.heap.size p fv pv rv := h.to (stay_self fun _ _ h => h)
theorem TreeP.below {w w' : World} {B B' : Nat} {p : TreeM} {fv pv rv : Value} (h : TreeAt w B p fv pv rv) (hb : Below B' w w') (hB : B ≤ B') : TreeAt w' B p fv pv rv := h.to (stay_below hb hB)
theorem TreeP.up {w : World} {B B' : Nat} {p : TreeM} {fv pv rv : Value} (h : TreeAt w B p fv pv rv) (hB : B ≤ B') : TreeAt w B' p fv pv rv := h.to (stay_self fun g hg _ => by show g < B'; have : g < B := hg; omega)
theorem TreeP.nil (w : World) (P : Nat → Prop) : TreeP w P nilM (.slice none 0 0) (.slice none 0 0) (.slice none 0 0) := ⟨FieldsP.nil _ _, ParsP.nil _ _, PartsP.nil _ _⟩
def partV (p : TreeM) (fv pv rv : Value) : Value := .agg #[fv, .string (textQ p.typ.1), .string (textQ p.typ.2.1), pv, .string (textQ p.body), rv]

theorem infoPart : (Tryz.prog.info? 29).map (fun i => (i.zero, i.size, i.bytes)) = some (some (.agg #[.slice none 0 0, .string ⟨#[]⟩, .string ⟨#[]⟩, .slice none 0 0, .string ⟨#[]⟩, .slice none 0 0]), 6, 120) := by kernel_rfl
abbrev KidM := TreeM × Value × Value × Value
def kidCells (x : KidM) : List Value := [x.2.1, .string (textQ x.1.typ.1), .string (textQ x.1.typ.2.1), x.2.2.1, .string (textQ x.1.body), x.2.2.2]
def kidsCells (l : List KidM) : List Value := l.flatMap kidCells
theorem kids_len (l : List KidM) : (kidsCells l).length = l.length * 6 := by
  induction l with
  | nil => rfl
  | cons a l ih =>
    show (kidCells a ++ kidsCells l).length = _
    rw [List.length_append, ih, List.length_cons]
    simp [kidCells]
    omega
theorem kids_at : ∀ (l : List KidM) (i : Nat) (h : i < l.length) (j : Nat), j < 6 → (kidsCells l)[i * 6 + j]? = (kidCells l[i])[j]?
  | a :: l, 0, _, j, hj => by
    show (kidCells a ++ kidsCells l)[0 * 6 + j]? = _
    rw [Nat.zero_mul, Nat.zero_add, List.getElem?_append_left (by simp [kidCells]; omega)]
    rfl
  | a :: l, i + 1, h, j, hj => by
    have ih := kids_at l i (by simpa using h) j hj
    show (kidCells a ++ kidsCells l)[(i + 1) * 6 + j]? = _
    rw [List.getElem?_append_right (by simp [kidCells]; omega)]
    rw [show (i + 1) * 6 + j - (kidCells a).length = i * 6 + j by simp [kidCells]; omega, ih]
    rfl
abbrev PartsOwn (w : World) (B : Nat) (v : Value) (l : List KidM) : Prop := w.ownsRow B 29 6 v l.length (kidsCells l)
def KidsP (w : World) (P : Nat → Prop) (l : List KidM) : Prop := ∀ x ∈ l, TreeP w P x.1 x.2.1 x.2.2.1 x.2.2.2
theorem KidsP.to {w w' : World} {P Q : Nat → Prop} {l : List KidM} (h : KidsP w P l) (hs : StayP w P w' Q) : KidsP w' Q l := fun x hx => (h x hx).to hs
theorem kids_nil (w : World) (P : Nat → Prop) : KidsP w P [] := fun x hx => by cases hx
theorem append_part {w : World} {ops : Array Oper} {rest : List Oper} {o : Oper} {a : Act} {Q : Exit → Act → World → Prop} (hgd : o.guard = none) (s x : Operand)
    (ho : o.op = .call { callee := .builtin .append, args := #[s, x], argTypes := #[27, 27] }) (B : Nat) (v : Value) (l : List KidM) (p : KidM) (hs : a.eval s = v) (hown : PartsOwn w B v l) (hB : B ≤ w.heap.size) (hl : l.length ≤ 1000000)
    (b c : Nat) (hx : a.eval x = .slice (some ⟨b, 0, none⟩) 1 c) (h0 : ∀ j, j < 6 → w.cell? ⟨b, j, none⟩ = (kidCells p)[j]?)
    (hp1 : p.2.1.oneCell' = true) (hp2 : p.2.2.1.oneCell' = true) (hp3 : p.2.2.2.oneCell' = true)
    (h : ∀ v' w', PartsOwn w' B v' (l ++ [p]) → w.grownBy w' v.ownBlock → (v'.ownBlock = v.ownBlock ∨ v'.ownBlock = some w.heap.size) → wpList Tryz.prog ops Q rest (a.put o.dst v') w') : wpList Tryz.prog ops Q (o :: rest) a w := by
  obtain ⟨i0, hi, hz0, hz1, hz2⟩ := info_parts infoPart
  refine wpList_append_own_at w hgd s x 27 ho B 29 i0 _ 6 120 Tryz.underlying27 hi hz0 hz1 hz2 rfl (by decide) v l.length _ hs hown ⟨b, 0, none⟩ 1 c (kidCells p) hx rfl (fun j u hj => ?_) (fun u hu => ?_) (by unfold maxLen; omega) (by omega) hB (fun v' w' q1 q2 _ q3 => ?_)
  · rw [Addr.add_lit, Nat.zero_add]
    have hj6 : j < 6 := by
      rcases Nat.lt_or_ge j 6 with h6 | h6
      · exact h6
      · rw [List.getElem?_eq_none (by simp [kidCells]; omega)] at hj
        cases hj
    rw [h0 j hj6]
    exact hj
  · simp only [kidCells, List.mem_cons, List.not_mem_nil, or_false] at hu
    rcases hu with rfl | rfl | rfl | rfl | rfl | rfl
    · exact hp1
    · rfl
    · rfl
    · exact hp2
    · rfl
    · exact hp3
  · refine h v' w' ?_ q2 q3
    unfold PartsOwn
    rw [List.length_append, show kidsCells (l ++ [p]) = kidsCells l ++ kidCells p by simp [kidsCells]]
    exact q1
theorem PartsOwn.parts {w : World} {B : Nat} {v : Value} {l : List KidM} {P : Nat → Prop} (h : PartsOwn w B v l) (hk : KidsP w P l) (hP : ∀ g, B ≤ g → P g) : PartsP w P v (l.map (·.1)) := by
  obtain ⟨n, hn⟩ : ∃ n, ∀ x ∈ l, PartsN w P n x.2.2.2 x.1.parts := by
    clear h
    induction l with
    | nil => exact ⟨0, fun x hx => by cases hx⟩
    | cons a l ih =>
      obtain ⟨n, hn⟩ := ih fun x hx => hk x (List.mem_cons_of_mem _ hx)
      obtain ⟨m, hm⟩ := (hk a (List.mem_cons_self ..)).r
      refine ⟨n + m, fun x hx => ?_⟩
      rcases List.mem_cons.1 hx with rfl | hx
      · exact partsN_more m _ (by omega) hm
      · exact partsN_more n _ (by omega) (hn x hx)
  refine ⟨n + 1, ?_⟩
  have hlt := h.lt
  obtain ⟨h1, h2⟩ := h
  rcases h2 with ⟨rfl, h0⟩ | ⟨g, cap, cur, rfl, hg, hb, hc, hm, hs, ht⟩
  · have hl : l = [] := List.eq_nil_of_length_eq_zero h0
    subst hl
    exact ⟨none, 0, rfl, Nat.le_refl _, by simp [maxLen], fun i hi => absurd hi (by simp)⟩
  · refine ⟨_, cap, by rw [List.length_map], by rw [List.length_map]; exact hc, hm, fun i hi => ?_⟩
    have hil : i < l.length := by rw [List.length_map] at hi; exact hi
    have hcell : ∀ j, j < 6 → w.cell? ⟨g, 0 + i * 6 + j, none⟩ = (kidCells l[i])[j]? := fun j hj => by
      rw [Nat.zero_add, Lib.cell_of_heap hb (i * 6 + j), ← kids_at l i hil j hj, ← ht, List.getElem?_take_of_lt (by omega)]
      simp
    have hx := hk l[i] (List.getElem_mem hil)
    have hN := hn l[i] (List.getElem_mem hil)
    refine ⟨g, 0, l[i].2.1, l[i].2.2.1, l[i].2.2.2, rfl, hP g hg, ?_⟩
    have e : (l.map (·.1))[i] = l[i].1 := by rw [List.getElem_map]
    rw [e]
    exact ⟨hcell 0 (by omega), hcell 1 (by omega), hcell 2 (by omega), hcell 3 (by omega), hcell 4 (by omega), hcell 5 (by omega), hx.f, hx.t, hN⟩
theorem kids_grown {w w' : World} {v v' : Value} {l : List KidM} {B : Nat} (h : KidsP w (fun g => B ≤ g ∧ v.ownBlock ≠ some g) l) (hg : w.grownBy w' v.ownBlock) (hv : v'.ownBlock = v.ownBlock ∨ v'.ownBlock = some w.heap.size) :
    KidsP w' (fun g => B ≤ g ∧ v'.ownBlock ≠ some g) l := h.to fun g ⟨h1, h2⟩ hl => by
  refine ⟨⟨h1, fun e => ?_⟩, fun j => ?_⟩
  · rcases hv with hv | hv
    · exact h2 (hv ▸ e)
    · rw [hv] at e
      have := Option.some.inj e
      omega
  · have hb := hg.block g hl (fun e => h2 e.symm)
    unfold World.cell?
    simp only [hb]
end Go.Proofs.YtjikghndoklajaaGreatDoor
namespace Go.Proofs.YtjikghndoklajaaGreatDoor
open Go.RowKit

def PrtAt (w : World) (B : Nat) (a b c d e f : Value) : Prop := w.heap[B]? = some (.cells #[a, b, c, d, e, f] 29 (0, 0))
section
variable {w w' : World} {B : Nat} {a b c d e f : Value}
theorem PrtAt.lt (h : PrtAt w B a b c d e f) : B < w.heap.size := heap_lt h
theorem PrtAt.cells (h : PrtAt w B a b c d e f) : w.cell? ⟨B, 0, none⟩ = some a ∧ w.cell? ⟨B, 1, none⟩ = some b ∧ w.cell? ⟨B, 2, none⟩ = some c ∧ w.cell? ⟨B, 3, none⟩ = some d ∧ w.cell? ⟨B, 4, none⟩ = some e ∧ w.cell? ⟨B, 5, none⟩ = some f ∧
    w.frozen? ⟨B, 0, none⟩ = false ∧ w.frozen? ⟨B, 1, none⟩ = false ∧ w.frozen? ⟨B, 2, none⟩ = false ∧ w.frozen? ⟨B, 3, none⟩ = false ∧ w.frozen? ⟨B, 4, none⟩ = false ∧ w.frozen? ⟨B, 5, none⟩ = false :=
  ⟨Lib.cell_of_heap h 0, Lib.cell_of_heap h 1, Lib.cell_of_heap h 2, Lib.cell_of_heap h 3, Lib.cell_of_heap h 4, Lib.cell_of_heap h 5, Lib.frozen_of_heap h 0, Lib.frozen_of_heap h 1, Lib.frozen_of_heap h 2, Lib.frozen_of_heap h 3, Lib.frozen_of_heap h 4, Lib.frozen_of_heap h 5⟩
theorem PrtAt.below (h : PrtAt w B a b c d e f) (hb : Below w.heap.size w w') : PrtAt w' B a b c d e f := (hb.block _ h.lt).trans h
theorem prt_new (w : World) (a b c d e f : Value) : PrtAt (w.alloc (.cells #[a, b, c, d, e, f] 29)) w.heap.size a b c d e f := heap_alloc_new w _
def putP (w : World) (B : Nat) (a b c d e f : Value) : World := (((((w.setCell ⟨B, 0, none⟩ a).setCell ⟨B, 1, none⟩ b).setCell ⟨B, 2, none⟩ c).setCell ⟨B, 3, none⟩ d).setCell ⟨B, 4, none⟩ e).setCell ⟨B, 5, none⟩ f
theorem PrtAt.put (h : PrtAt w B a b c d e f) (a' b' c' d' e' f' : Value) : PrtAt (putP w B a' b' c' d' e' f') B a' b' c' d' e' f' := by
  unfold PrtAt at h ⊢
  unfold putP
  have h1 := heap_setCell_same w B 0 _ _ a' h
  have h2 := heap_setCell_same _ B 1 _ _ b' h1
  have h3 := heap_setCell_same _ B 2 _ _ c' h2
  have h4 := heap_setCell_same _ B 3 _ _ d' h3
  have h5 := heap_setCell_same _ B 4 _ _ e' h4
  have h6 := heap_setCell_same _ B 5 _ _ f' h5
  rw [h6]
  rfl
theorem PrtAt.body (h : PrtAt w B a b c d e f) (e' : Value) : PrtAt (w.setCell ⟨B, 4, none⟩ e') B a b c d e' f := by
  unfold PrtAt at h ⊢
  rw [heap_setCell_same w B 4 _ _ e' h]
  rfl
theorem PrtAt.parts (h : PrtAt w B a b c d e f) (f' : Value) : PrtAt (w.setCell ⟨B, 5, none⟩ f') B a b c d e f' := by
  unfold PrtAt at h ⊢
  rw [heap_setCell_same w B 5 _ _ f' h]
  rfl
theorem PrtAt.fields (h : PrtAt w B a b c d e f) (a' : Value) : PrtAt (w.setCell ⟨B, 0, none⟩ a') B a' b c d e f := by
  unfold PrtAt at h ⊢
  rw [heap_setCell_same w B 0 _ _ a' h]
  rfl
theorem PrtAt.pars (h : PrtAt w B a b c d e f) (d' : Value) : PrtAt (w.setCell ⟨B, 3, none⟩ d') B a b c d' e f := by
  unfold PrtAt at h ⊢
  rw [heap_setCell_same w B 3 _ _ d' h]
  rfl
theorem below_putP {M : Nat} {v : World} (h : Below M v w) (hB : M ≤ B) (a b c d e f : Value) : Below M v (putP w B a b c d e f) := by
  unfold putP
  exact (((((h.setCell (p := ⟨B, 0, none⟩) hB _).setCell (p := ⟨B, 1, none⟩) hB _).setCell (p := ⟨B, 2, none⟩) hB _).setCell (p := ⟨B, 3, none⟩) hB _).setCell (p := ⟨B, 4, none⟩) hB _).setCell (p := ⟨B, 5, none⟩) hB _
theorem putP_size (w : World) (B : Nat) (a b c d e f : Value) : (putP w B a b c d e f).heap.size = w.heap.size := by simp [putP, World.setCell]
theorem putP_block {k : Nat} (h : k ≠ B) (a b c d e f : Value) : (putP w B a b c d e f).heap[k]? = w.heap[k]? := by
  unfold putP
  exact (Below.heap_setCell _ ⟨B, 5, none⟩ f k h).trans ((Below.heap_setCell _ ⟨B, 4, none⟩ e k h).trans ((Below.heap_setCell _ ⟨B, 3, none⟩ d k h).trans ((Below.heap_setCell _ ⟨B, 2, none⟩ c k h).trans ((Below.heap_setCell _ ⟨B, 1, none⟩ b k h).trans (Below.heap_setCell _ ⟨B, 0, none⟩ a k h)))))
theorem cell_block {k j : Nat} (h : w'.heap[k]? = w.heap[k]?) : w'.cell? ⟨k, j, none⟩ = w.cell? ⟨k, j, none⟩ := by
  unfold World.cell?
  simp only [h]
theorem stay_put {P : Nat → Prop} (h : ∀ g, P g → g ≠ B) (a b c d e f : Value) : StayP w P (putP w B a b c d e f) P := fun g hg _ => ⟨hg, fun _ => cell_block (putP_block (h g hg) a b c d e f)⟩
theorem stay_set {P : Nat → Prop} {j : Nat} (h : ∀ g, P g → g ≠ B) (u : Value) : StayP w P (w.setCell ⟨B, j, none⟩ u) P := fun g hg _ => ⟨hg, fun _ => cell_block (Below.heap_setCell w ⟨B, j, none⟩ u g (h g hg))⟩
end
end Go.Proofs.YtjikghndoklajaaGreatDoor
