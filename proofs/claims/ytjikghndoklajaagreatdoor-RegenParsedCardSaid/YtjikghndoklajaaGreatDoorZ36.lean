/-
  Texts of this proof, put together: MmK.
-/
import Derived.Test.YtjikghndoklajaaGreatDoorZ35
import Derived.Deep.AppendLies
import Derived.Deep.RegionHeldLaw
import Derived.Deep.DrawnRows
namespace Go.Proofs.YtjikghndoklajaaGreatDoor
open Go.RowKit
attribute [local go_sem ↓] Go.wp_at_zero Go.wp_at_succ

def SmallP (M : Nat) (p : TreeM) : Prop := SmallF M p.fields ∧ (p.typ.1.length ≤ M ∧ p.typ.2.1.length ≤ M ∧ ∀ x ∈ p.typ.2.2, x.1.length ≤ M ∧ x.2.length ≤ M) ∧ p.body.length ≤ M

theorem prt_grown {w w' : World} {B0 e size n N : Nat} {v : Value} {xs : List Value} {a b c d f g : Value} (ho : w.ownsRow B0 e size v n xs) (h : PrtAt w N a b c d f g) (hN : N < B0) (hg : w.grownBy w' v.ownBlock) : PrtAt w' N a b c d f g :=
  (hg.block N h.lt (fun e => by have := (ho.lt N e.symm).1; omega)).trans h
set_option maxRecDepth 100000 in
set_option maxHeartbeats 8000000 in
theorem mcopyleaf_any (B : Nat) (p : TreeM) (fv pv rv : Value) (w : World) (h : TreeAt w B p fv pv rv) (hB : B ≤ w.heap.size) (hs : SmallP 100000000 p) (hlen : p.fields.length ≤ 1000000 ∧ p.typ.2.2.length ≤ 1000000) :
    Calls Tryz.prog 13 #[partV p fv pv rv] w fun e w' => ∃ fv' pv', e = .returned (partV (.mk p.fields p.typ p.body []) fv' pv' (.slice none 0 0)) ∧ FieldsP w' (fun g => w.heap.size ≤ g) fv' p.fields ∧ ParsP w' (fun g => w.heap.size ≤ g) pv' p.typ.2.2 ∧ Below w.heap.size w w' := by
  obtain ⟨a1, c1, rfl, hc1, hm1⟩ := h.f.slice
  obtain ⟨a2, c2, rfl, hc2, hm2⟩ := h.t.slice
  obtain ⟨a3, c3, rfl, hc3, hm3⟩ := h.r.slice
  unfold maxLen at hm1 hm2 hm3
  obtain ⟨n1, hn1⟩ : ∃ n1, p.fields.length = n1 := ⟨_, rfl⟩
  obtain ⟨n2, hn2⟩ : ∃ n2, p.typ.2.2.length = n2 := ⟨_, rfl⟩
  obtain ⟨n3, hn3⟩ : ∃ n3, p.parts.length = n3 := ⟨_, rfl⟩
  obtain ⟨X, hX⟩ : ∃ X, textQ p.typ.1 = X := ⟨_, rfl⟩
  obtain ⟨Y, hY⟩ : ∃ X, textQ p.typ.2.1 = X := ⟨_, rfl⟩
  obtain ⟨D, hD⟩ : ∃ X, textQ p.body = X := ⟨_, rfl⟩
  have sX : X.size ≤ 100000000 := by rw [← hX]; exact hs.2.1.1
  have sY : Y.size ≤ 100000000 := by rw [← hY]; exact hs.2.1.2.1
  have sD : D.size ≤ 100000000 := by rw [← hD]; exact hs.2.2
  unfold partV
  rw [hn1] at hc1 h hlen
  rw [hn2] at hc2 h hlen
  rw [hn3] at hc3 h
  rw [hX, hY, hD, hn1, hn2, hn3]
  obtain ⟨w1, hw1⟩ : ∃ w1, w.alloc (.cells #[.slice a1 n1 c1, .string X, .string Y, .slice a2 n2 c2, .string D, .slice a3 n3 c3] 29) = w1 := ⟨_, rfl⟩
  have b1 : Below w.heap.size w w1 := by rw [← hw1]; exact (Below.refl _ _).alloc (Nat.le_refl _) _
  have z1 : w.heap.size < w1.heap.size := by rw [← hw1]; simp
  have p1 : PrtAt w1 w.heap.size (.slice a1 n1 c1) (.string X) (.string Y) (.slice a2 n2 c2) (.string D) (.slice a3 n3 c3) := by rw [← hw1]; exact prt_new w _ _ _ _ _ _
  obtain ⟨w2, hw2⟩ : ∃ w2, w1.alloc (.cells #[.slice none 0 0, .string ⟨#[]⟩, .string ⟨#[]⟩, .slice none 0 0, .string ⟨#[]⟩, .slice none 0 0] 29) = w2 := ⟨_, rfl⟩
  have b2 : Below w1.heap.size w1 w2 := by rw [← hw2]; exact (Below.refl _ _).alloc (Nat.le_refl _) _
  have p2 : PrtAt w2 w1.heap.size (.slice none 0 0) (.string ⟨#[]⟩) (.string ⟨#[]⟩) (.slice none 0 0) (.string ⟨#[]⟩) (.slice none 0 0) := by rw [← hw2]; exact prt_new w1 _ _ _ _ _ _
  have hcd := sclone_any D w2 sD
  obtain ⟨y0, y1, y2, y3, y4, y5, _⟩ := (p1.below b2).cells
  have HP := Lib.hid (And.intro (And.intro hn1 hn2) (And.intro hX (And.intro hY hD)))
  have HS := Lib.hid (And.intro hs (And.intro h hB))
  have HSz := Lib.hid (And.intro sX (And.intro sY sD))
  clear hn1 hn2 hn3 hX hY hD hs h
  go_enter Tryz.func13, Tryz.ntmps13
  go_wp2_with fail
  refine hcd.mono ?_
  rintro e w3 ⟨rfl, hb⟩
  clear hcd
  have p3 := (p1.below b2).below hb
  obtain ⟨j0, j1, j2, j3, j4, j5, _⟩ := p3.cells
  go_wp2_with fail
  clear j0 j1 j2 j3 j4 j5 p3
  obtain ⟨w4, hw4⟩ : ∃ w4, w3.alloc (.cells #[.slice none 0 0, .string ⟨#[]⟩, .string ⟨#[]⟩, .slice none 0 0, .string D, .slice none 0 0] 29) = w4 := ⟨_, rfl⟩
  have b34 : Below w3.heap.size w3 w4 := by rw [← hw4]; exact (Below.refl _ _).alloc (Nat.le_refl _) _
  have z34 : w3.heap.size < w4.heap.size := by rw [← hw4]; simp
  have p4 : PrtAt w4 w.heap.size (.slice a1 n1 c1) (.string X) (.string Y) (.slice a2 n2 c2) (.string D) (.slice a3 n3 c3) := ((p1.below b2).below hb).below b34
  have r4 : PrtAt w4 w1.heap.size (.slice none 0 0) (.string ⟨#[]⟩) (.string ⟨#[]⟩) (.slice none 0 0) (.string ⟨#[]⟩) (.slice none 0 0) := (p2.below hb).below b34
  have n4 : PrtAt w4 w3.heap.size (.slice none 0 0) (.string ⟨#[]⟩) (.string ⟨#[]⟩) (.slice none 0 0) (.string D) (.slice none 0 0) := by rw [← hw4]; exact prt_new w3 _ _ _ _ _ _
  have b4 : Below w.heap.size w w4 := (b1.trans (b2.mono b1.size)).trans ((hb.trans (b34.mono hb.size)).mono (by have := b1.size; have := b2.size; omega))
  have hS : Hid (∀ W, Below w4.heap.size w4 W → W.cell? ⟨w.heap.size, 1, none⟩ = some (.string X) ∧ W.cell? ⟨w.heap.size, 2, none⟩ = some (.string Y) ∧ W.cell? ⟨w3.heap.size, 1, none⟩ = some (.string ⟨#[]⟩) ∧ W.cell? ⟨w3.heap.size, 2, none⟩ = some (.string ⟨#[]⟩) ∧ W.cell? ⟨w3.heap.size, 3, none⟩ = some (.slice none 0 0) ∧ W.frozen? ⟨w3.heap.size, 1, none⟩ = false ∧ W.frozen? ⟨w3.heap.size, 2, none⟩ = false ∧ W.frozen? ⟨w3.heap.size, 3, none⟩ = false ∧ Below w4.heap.size w4 W) := Lib.hid fun W hW => by
    obtain ⟨_, q1, q2, _⟩ := (p4.below hW).cells
    obtain ⟨_, r1, r2, r3, _, _, _, f1, f2, f3, _⟩ := (n4.below hW).cells
    exact ⟨q1, q2, r1, r2, r3, f1, f2, f3, hW⟩
  have hc : ∀ T (hT : T.size ≤ 100000000), Hid (∀ W, (W.cell? ⟨w.heap.size, 1, none⟩ = some (.string X) ∧ W.cell? ⟨w.heap.size, 2, none⟩ = some (.string Y) ∧ W.cell? ⟨w3.heap.size, 1, none⟩ = some (.string ⟨#[]⟩) ∧ W.cell? ⟨w3.heap.size, 2, none⟩ = some (.string ⟨#[]⟩) ∧ W.cell? ⟨w3.heap.size, 3, none⟩ = some (.slice none 0 0) ∧ W.frozen? ⟨w3.heap.size, 1, none⟩ = false ∧ W.frozen? ⟨w3.heap.size, 2, none⟩ = false ∧ W.frozen? ⟨w3.heap.size, 3, none⟩ = false ∧ Below w4.heap.size w4 W) → Calls Tryz.prog 20 #[.string T] W fun e w' => e = .returned (.string T) ∧ (w'.cell? ⟨w.heap.size, 1, none⟩ = some (.string X) ∧ w'.cell? ⟨w.heap.size, 2, none⟩ = some (.string Y) ∧ w'.cell? ⟨w3.heap.size, 1, none⟩ = some (.string ⟨#[]⟩) ∧ w'.cell? ⟨w3.heap.size, 2, none⟩ = some (.string ⟨#[]⟩) ∧ w'.cell? ⟨w3.heap.size, 3, none⟩ = some (.slice none 0 0) ∧ w'.frozen? ⟨w3.heap.size, 1, none⟩ = false ∧ w'.frozen? ⟨w3.heap.size, 2, none⟩ = false ∧ w'.frozen? ⟨w3.heap.size, 3, none⟩ = false ∧ Below w4.heap.size w4 w')) := fun T hT => Lib.hid fun W hW => by
    obtain ⟨_, _, _, _, _, _, _, _, hW⟩ := hW
    refine (sclone_any T W hT).mono ?_
    rintro e w' ⟨rfl, hb⟩
    exact ⟨rfl, hS.out _ (hW.trans (hb.mono hW.size))⟩
  have HX := hc X sX
  have HY := hc Y sY
  have hS0 := Lib.hid (hS.out w4 (Below.refl _ _))
  have hS1 := Lib.hid (hS.out _ (Below.refl w4.heap.size w4).drew)
  have hwk : Hid (∀ W, (W.cell? ⟨w.heap.size, 1, none⟩ = some (.string X) ∧ W.cell? ⟨w.heap.size, 2, none⟩ = some (.string Y) ∧ W.cell? ⟨w3.heap.size, 1, none⟩ = some (.string ⟨#[]⟩) ∧ W.cell? ⟨w3.heap.size, 2, none⟩ = some (.string ⟨#[]⟩) ∧ W.cell? ⟨w3.heap.size, 3, none⟩ = some (.slice none 0 0) ∧ W.frozen? ⟨w3.heap.size, 1, none⟩ = false ∧ W.frozen? ⟨w3.heap.size, 2, none⟩ = false ∧ W.frozen? ⟨w3.heap.size, 3, none⟩ = false ∧ Below w4.heap.size w4 W) → (W.cell? ⟨w.heap.size, 1, none⟩ = some (.string X) ∧ W.cell? ⟨w.heap.size, 2, none⟩ = some (.string Y) ∧ Below w3.heap.size w4 W)) := Lib.hid fun W ⟨q0, q1, _, _, _, _, _, _, q9⟩ => ⟨q0, q1, q9.mono (by omega)⟩
  have zz : w.heap.size < w3.heap.size := by have := hb.size; have := b2.size; omega
  have hput : Hid (∀ W, (W.cell? ⟨w.heap.size, 1, none⟩ = some (.string X) ∧ W.cell? ⟨w.heap.size, 2, none⟩ = some (.string Y) ∧ Below w3.heap.size w4 W) → ((((W.setCell ⟨w3.heap.size, 1, none⟩ (.string X)).setCell ⟨w3.heap.size, 2, none⟩ (.string Y)).setCell ⟨w3.heap.size, 3, none⟩ (.slice none 0 0)).cell? ⟨w.heap.size, 1, none⟩ = some (.string X) ∧ (((W.setCell ⟨w3.heap.size, 1, none⟩ (.string X)).setCell ⟨w3.heap.size, 2, none⟩ (.string Y)).setCell ⟨w3.heap.size, 3, none⟩ (.slice none 0 0)).cell? ⟨w.heap.size, 2, none⟩ = some (.string Y) ∧ Below w3.heap.size w4 (((W.setCell ⟨w3.heap.size, 1, none⟩ (.string X)).setCell ⟨w3.heap.size, 2, none⟩ (.string Y)).setCell ⟨w3.heap.size, 3, none⟩ (.slice none 0 0)))) := Lib.hid fun W ⟨q0, q1, q9⟩ => by
    have hb : Below w3.heap.size W (((W.setCell ⟨w3.heap.size, 1, none⟩ (.string X)).setCell ⟨w3.heap.size, 2, none⟩ (.string Y)).setCell ⟨w3.heap.size, 3, none⟩ (.slice none 0 0)) := (((Below.refl _ _).setCell (p := ⟨w3.heap.size, 1, none⟩) (Nat.le_refl _) _).setCell (p := ⟨w3.heap.size, 2, none⟩) (Nat.le_refl _) _).setCell (p := ⟨w3.heap.size, 3, none⟩) (Nat.le_refl _) _
    exact ⟨(hb.cell (p := ⟨w.heap.size, 1, none⟩) zz).trans q0, (hb.cell (p := ⟨w.heap.size, 2, none⟩) zz).trans q1, q9.trans hb⟩
  have hw0k := Lib.hid (hwk.out _ hS0.out)
  have hw1k := Lib.hid (hwk.out _ hS1.out)
  have B4 := Lib.hid (And.intro b4 (And.intro p4 (And.intro r4 n4)))
  have z13 : w1.heap.size < w3.heap.size := by have h1 := hb.size; have h2 : w2.heap.size = w1.heap.size + 1 := (by rw [← hw2]; simp); omega
  clear hb b34 p4 r4 n4 b4 hc p1 p2 b1 b2 y0 y1 y2 y3 y4 y5
  rw [hw4]
  go_region_held3 (fun W => W.cell? ⟨w.heap.size, 1, none⟩ = some (.string X) ∧ W.cell? ⟨w.heap.size, 2, none⟩ = some (.string Y) ∧ Below w3.heap.size w4 W)
    (first | assumption | exact hw0k.out | exact hw1k.out | exact hput.out _ (by assumption) | (trace_state; fail))
    (first
      | (go_at_call 20; (with_reducible refine (HX.out _ ?_).mono ?_); (first | exact hS0.out | exact hS1.out | assumption); rintro e w5 ⟨rfl, hS11⟩; have k11 := hwk.out _ hS11; obtain ⟨x0, x1, x2, x3, x4, x5, x6, x7, x8⟩ := id hS11)
      | (go_at_call 20; (with_reducible refine (HY.out _ ?_).mono ?_); (first | assumption); rintro e w6 ⟨rfl, hS12⟩; have k12 := hwk.out _ hS12; obtain ⟨y0, y1, y2, y3, y4, y5, y6, y7, y8⟩ := id hS12))
  have K7 : Hid (Below w.heap.size w (((w6.setCell ⟨w3.heap.size, 1, none⟩ (.string X)).setCell ⟨w3.heap.size, 2, none⟩ (.string Y)).setCell ⟨w3.heap.size, 3, none⟩ (.slice none 0 0)) ∧ PrtAt (((w6.setCell ⟨w3.heap.size, 1, none⟩ (.string X)).setCell ⟨w3.heap.size, 2, none⟩ (.string Y)).setCell ⟨w3.heap.size, 3, none⟩ (.slice none 0 0)) w.heap.size (.slice a1 n1 c1) (.string X) (.string Y) (.slice a2 n2 c2) (.string D) (.slice a3 n3 c3) ∧ PrtAt (((w6.setCell ⟨w3.heap.size, 1, none⟩ (.string X)).setCell ⟨w3.heap.size, 2, none⟩ (.string Y)).setCell ⟨w3.heap.size, 3, none⟩ (.slice none 0 0)) w1.heap.size (.slice none 0 0) (.string ⟨#[]⟩) (.string ⟨#[]⟩) (.slice none 0 0) (.string ⟨#[]⟩) (.slice none 0 0) ∧ PrtAt (((w6.setCell ⟨w3.heap.size, 1, none⟩ (.string X)).setCell ⟨w3.heap.size, 2, none⟩ (.string Y)).setCell ⟨w3.heap.size, 3, none⟩ (.slice none 0 0)) w3.heap.size (.slice none 0 0) (.string X) (.string Y) (.slice none 0 0) (.string D) (.slice none 0 0)) := Lib.hid (by
    obtain ⟨b4, p4, r4, n4⟩ := B4.out
    have hbs : Below w3.heap.size w6 (((w6.setCell ⟨w3.heap.size, 1, none⟩ (.string X)).setCell ⟨w3.heap.size, 2, none⟩ (.string Y)).setCell ⟨w3.heap.size, 3, none⟩ (.slice none 0 0)) := (((Below.refl _ _).setCell (p := ⟨w3.heap.size, 1, none⟩) (Nat.le_refl _) _).setCell (p := ⟨w3.heap.size, 2, none⟩) (Nat.le_refl _) _).setCell (p := ⟨w3.heap.size, 3, none⟩) (Nat.le_refl _) _
    refine ⟨(b4.trans (y8.mono b4.size)).trans (hbs.mono (by omega)), (hbs.block _ zz).trans (p4.below y8), (hbs.block _ z13).trans (r4.below y8), ?_⟩
    have n6 := n4.below y8
    unfold PrtAt at n6 ⊢
    have e1 := heap_setCell_same _ _ 1 _ _ (.string X) n6
    have e2 := heap_setCell_same _ _ 2 _ _ (.string Y) e1
    have e3 := heap_setCell_same _ _ 3 _ _ (.slice none 0 0) e2
    rw [e3]
    rfl)
  obtain ⟨w7, hw7⟩ : ∃ w7, (((w6.setCell ⟨w3.heap.size, 1, none⟩ (.string X)).setCell ⟨w3.heap.size, 2, none⟩ (.string Y)).setCell ⟨w3.heap.size, 3, none⟩ (.slice none 0 0)) = w7 := ⟨_, rfl⟩
  rw [hw7] at K7
  clear hS hS0 hS1 HX HY hwk hput hw0k hw1k B4 k11 k12 hS11 hS12 x0 x1 x2 x3 x4 x5 x6 x7 x8 y0 y1 y2 y3 y4 y5 y6 y7 y8
  obtain ⟨t0, t1, t2, t3, t4, t5, _⟩ := K7.out.2.1.cells
  have Hq : Hid (∀ W i (hi : i < p.typ.2.2.length), Below w.heap.size w W → ∃ g off, a2 = some ⟨g, off, none⟩ ∧ W.cell? ⟨g, off + i * 2, none⟩ = some (.string (textQ p.typ.2.2[i].1)) ∧ W.cell? ⟨g, off + i * 2 + 1, none⟩ = some (.string (textQ p.typ.2.2[i].2))) := Lib.hid fun W i hi hW => by
    obtain ⟨ao, cap, e, _, _, h4⟩ := (HS.out.2.1.below hW HS.out.2.2).t
    cases e
    obtain ⟨g, off, q1, _, q3, q4⟩ := h4 i hi
    exact ⟨g, off, q1, q3, q4⟩
  obtain ⟨i0, hi0, hz0, hz1, hz2⟩ := info_parts infoPar
  go_wp2
  go_loopw [26] (fun iv W => ∃ (i : Nat) (ao : Option Addr) (cap : Nat), i ≤ n2 ∧ iv = .int .i64 i ∧ w7.heap.size ≤ W.heap.size ∧ Hid (Below w.heap.size w W ∧ PrtAt W w.heap.size (.slice a1 n1 c1) (.string X) (.string Y) (.slice a2 n2 c2) (.string D) (.slice a3 n3 c3) ∧ PrtAt W w1.heap.size (.slice none 0 0) (.string ⟨#[]⟩) (.string ⟨#[]⟩) (.slice none 0 0) (.string ⟨#[]⟩) (.slice none 0 0) ∧ PrtAt W w3.heap.size (.slice none 0 0) (.string X) (.string Y) (.slice ao i cap) (.string D) (.slice none 0 0) ∧ ParsOwn W w7.heap.size (.slice ao i cap) (p.typ.2.2.take i))) (fun iv _ => n2 - (intOf iv).toNat)
  case atStart => exact ⟨0, none, 0, by omega, rfl, Nat.le_refl _, Lib.hid ⟨K7.out.1, K7.out.2.1, K7.out.2.2.1, K7.out.2.2.2, World.ownsRow_nil _ _ _ _⟩⟩
  case round =>
    obtain ⟨i, ao, cap, hi, rfl, hbz, hk⟩ := hrel
    clear t0 t1 t2 t3 t4 t5
    by_cases hlt : i < n2
    · have hil : i < p.typ.2.2.length := by rw [HP.out.1.2]; exact hlt
      obtain ⟨g, off, rfl, x0, x1⟩ := Hq.out wr i hil hk.out.1
      obtain ⟨s1, s2⟩ := HS.out.1.2.1.2.2 _ (List.getElem_mem hil)
      have htk := List.take_succ_eq_append_getElem hil
      obtain ⟨f, hf⟩ : ∃ f, p.typ.2.2[i] = f := ⟨_, rfl⟩
      rw [hf] at x0 x1 s1 s2 htk
      obtain ⟨P, hP⟩ : ∃ P, textQ f.1 = P := ⟨_, rfl⟩
      obtain ⟨Q, hQ⟩ : ∃ Q, textQ f.2 = Q := ⟨_, rfl⟩
      rw [hP] at x0
      rw [hQ] at x1
      have sP : P.size ≤ 100000000 := by rw [← hP]; exact s1
      have sQ : Q.size ≤ 100000000 := by rw [← hQ]; exact s2
      have e2 : parsCells (p.typ.2.2.take (i + 1)) = parsCells (p.typ.2.2.take i) ++ [.string P, .string Q] := by
        rw [htk]
        unfold parsCells
        rw [List.flatMap_append, ← hP, ← hQ]
        rfl
      have HE := Lib.hid (And.intro e2 (by rw [List.length_take]; omega : (p.typ.2.2.take i).length = i))
      have HE2 := Lib.hid (by rw [List.length_take]; omega : (p.typ.2.2.take (i + 1)).length = i + 1)
      obtain ⟨w8, hw8⟩ : ∃ w8, wr.alloc (.cells #[.string P, .string Q] 57) = w8 := ⟨_, rfl⟩
      have b8 : Below wr.heap.size wr w8 := by rw [← hw8]; exact (Below.refl _ _).alloc (Nat.le_refl _) _
      have z8 : wr.heap.size < w8.heap.size := by rw [← hw8]; simp
      have q8 : ParAt w8 wr.heap.size P Q := by rw [← hw8]; exact par_new wr P Q
      have K8 : Hid (∀ W, Below w8.heap.size w8 W → ((W.cell? ⟨w3.heap.size, 3, none⟩ = some (.slice ao i cap) ∧ (∀ o, (W.alloc o).cell? ⟨w3.heap.size, 3, none⟩ = some (.slice ao i cap))) ∧ W.cell? ⟨wr.heap.size, 0, none⟩ = some (.string P) ∧ W.cell? ⟨wr.heap.size, 1, none⟩ = some (.string Q)) ∧ PrtAt W w3.heap.size (.slice none 0 0) (.string X) (.string Y) (.slice ao i cap) (.string D) (.slice none 0 0) ∧ ParsOwn W w7.heap.size (.slice ao i cap) (p.typ.2.2.take i) ∧ Below wr.heap.size wr W) := Lib.hid fun W hW => by
        have hbw : Below wr.heap.size wr W := b8.trans (hW.mono b8.size)
        have n := hk.out.2.2.2.1.below hbw
        obtain ⟨_, _, _, c, _⟩ := n.cells
        obtain ⟨c0, c1, _⟩ := (q8.below hW).cells
        exact ⟨⟨⟨c, fun o => Lib.cell?_alloc_some o c⟩, c0, c1⟩, n, own_below hk.out.2.2.2.2 hbw, hbw⟩
      have HCP : Hid (∀ W, Calls Tryz.prog 20 #[.string P] W fun e w' => e = .returned (.string P) ∧ Below W.heap.size W w') := Lib.hid fun W => sclone_any P W sP
      have HCQ : Hid (∀ W, Calls Tryz.prog 20 #[.string Q] W fun e w' => e = .returned (.string Q) ∧ Below W.heap.size W w') := Lib.hid fun W => sclone_any Q W sQ
      obtain ⟨⟨⟨k0, k1⟩, k2, k3⟩, _⟩ := K8.out w8 (Below.refl _ _)
      have HR : Hid (∀ W, Below w8.heap.size w8 W → ∀ o, (W.alloc o).ownsRow w7.heap.size 57 2 (.slice ao i cap) i (parsCells (p.typ.2.2.take i))) := Lib.hid fun W hW o => by
        have h5 := own_below (K8.out W hW).2.2.1 ((Below.refl _ W).alloc (Nat.le_refl _) o)
        unfold ParsOwn at h5
        rw [HE.out.2] at h5
        exact h5
      have h63 : i + 1 ≤ maxLen := by unfold maxLen; omega
      have hbb : (i + 1) * 32 ≤ 140737488355328 := by omega
      have z38 : w3.heap.size < w7.heap.size := K7.out.2.2.2.lt
      have HZ := Lib.hid (And.intro hbz (And.intro z8 z38))
      clear hf hP hQ htk e2 b8 q8 hil s1 s2 hbz z38
      have HFin : Hid (∀ (w10 : World), Below w8.heap.size w8 w10 → ∀ (w11 : World) gg cap1, w11.ownsRow w7.heap.size 57 2 (.slice (some ⟨gg, 0, none⟩) (i + 1) cap1) (i + 1) (parsCells (p.typ.2.2.take i) ++ [.string P, .string Q]) → (w10.alloc (.cells #[.string P, .string Q] 57)).grownBy w11 (Value.slice ao i cap).ownBlock →
          w7.heap.size ≤ (w11.setCell ⟨w3.heap.size, 3, none⟩ (.slice (some ⟨gg, 0, none⟩) (i + 1) cap1)).heap.size ∧ Below w.heap.size w (w11.setCell ⟨w3.heap.size, 3, none⟩ (.slice (some ⟨gg, 0, none⟩) (i + 1) cap1)) ∧ PrtAt (w11.setCell ⟨w3.heap.size, 3, none⟩ (.slice (some ⟨gg, 0, none⟩) (i + 1) cap1)) w.heap.size (.slice a1 n1 c1) (.string X) (.string Y) (.slice (some ⟨g, off, none⟩) n2 c2) (.string D) (.slice a3 n3 c3) ∧ PrtAt (w11.setCell ⟨w3.heap.size, 3, none⟩ (.slice (some ⟨gg, 0, none⟩) (i + 1) cap1)) w1.heap.size (.slice none 0 0) (.string ⟨#[]⟩) (.string ⟨#[]⟩) (.slice none 0 0) (.string ⟨#[]⟩) (.slice none 0 0) ∧ PrtAt (w11.setCell ⟨w3.heap.size, 3, none⟩ (.slice (some ⟨gg, 0, none⟩) (i + 1) cap1)) w3.heap.size (.slice none 0 0) (.string X) (.string Y) (.slice (some ⟨gg, 0, none⟩) (i + 1) cap1) (.string D) (.slice none 0 0) ∧ ParsOwn (w11.setCell ⟨w3.heap.size, 3, none⟩ (.slice (some ⟨gg, 0, none⟩) (i + 1) cap1)) w7.heap.size (.slice (some ⟨gg, 0, none⟩) (i + 1) cap1) (p.typ.2.2.take (i + 1))) := Lib.hid fun w10 hc10 w11 gg cap1 hown1 hgrow => by
        obtain ⟨_, hn, ho, hbw⟩ := K8.out w10 hc10
        have hal : Below w10.heap.size w10 (w10.alloc (.cells #[.string P, .string Q] 57)) := (Below.refl _ w10).alloc (Nat.le_refl _) _
        have hro := HR.out w10 hc10 (.cells #[.string P, .string Q] 57)
        have hbz := HZ.out.1
        have hz10 := hc10.size
        have hz11 := hgrow.size
        have hza : (w10.alloc (.cells #[.string P, .string Q] 57)).heap.size = w10.heap.size + 1 := World.size_alloc _ _
        have hzs : (w11.setCell ⟨w3.heap.size, 3, none⟩ (.slice (some ⟨gg, 0, none⟩) (i + 1) cap1)).heap.size = w11.heap.size := by simp [World.setCell]
        have hst : ∀ k, k < w7.heap.size → k ≠ w3.heap.size → (w11.setCell ⟨w3.heap.size, 3, none⟩ (.slice (some ⟨gg, 0, none⟩) (i + 1) cap1)).heap[k]? = wr.heap[k]? := fun k h1 h2 => by
          have e1 := Below.heap_setCell w11 ⟨w3.heap.size, 3, none⟩ (.slice (some ⟨gg, 0, none⟩) (i + 1) cap1) k h2
          have e2 := hgrow.block k (by omega) (fun e => by have := (hro.lt k e.symm).1; omega)
          have e3 := hal.block k (by omega)
          have e4 := hbw.block k (by omega)
          exact e1.trans (e2.trans (e3.trans e4))
        have hz3 := HZ.out.2.2
        refine ⟨by omega, ?_, ?_, ?_, ?_, ?_⟩
        · have hg1 : Below w.heap.size w w11 := ((hk.out.1.trans (hbw.mono hk.out.1.size)).trans (hal.mono (by have := hk.out.1.size; omega))).grown hgrow (by have := hk.out.1.size; omega) (fun k hk2 => by have := (hro.lt k hk2).1; have := zz; omega)
          exact hg1.setCell (p := ⟨w3.heap.size, 3, none⟩) (Nat.le_of_lt zz) _
        · exact (hst _ (by omega) (by omega)).trans hk.out.2.1
        · exact (hst _ (by omega) (by omega)).trans hk.out.2.2.1
        · exact (prt_grown hro (hn.below hal) hz3 hgrow).pars _
        · have h5 := ownsRow_setCell_below hown1 (a := ⟨w3.heap.size, 3, none⟩) hz3 (.slice (some ⟨gg, 0, none⟩) (i + 1) cap1)
          unfold ParsOwn
          rw [HE2.out, HE.out.1]
          exact h5
      go_wp2_with fail
      go_region_law (first
        | (go_simp; go_at_call 20; (with_reducible refine (HCP.out _).mono ?_); rintro e w9 ⟨rfl, hb9⟩; have hc9 : Below w8.heap.size w8 w9 := (below_drewN (Below.refl _ w8) 1).trans hb9; obtain ⟨⟨⟨m0, m1⟩, m2, m3⟩, _⟩ := K8.out w9 hc9; clear hb9)
        | (go_simp; go_at_call 20; (with_reducible refine (HCQ.out _).mono ?_); rintro e w10 ⟨rfl, hb10⟩; have hc10 : Below w8.heap.size w8 w10 := hc9.trans (hb10.mono hc9.size); obtain ⟨⟨⟨n0, n1'⟩, n2', n3'⟩, _⟩ := K8.out w10 hc10; clear hb10)
        | (refine step_append_lies _ (by rfl) _ _ _ (by rfl) w7.heap.size 57 i0 _ 2 32 Tryz.underlying24 hi0 hz0 hz1 hz2 rfl (by omega) (.slice ao i cap) i (parsCells (p.typ.2.2.take i)) (by rfl) (HR.out w10 hc10 _) ⟨w10.heap.size, 0, none⟩ 1 1 [.string P, .string Q] (by rfl) (by rfl) (World.news_of_block (cs := #[.string P, .string Q]) (t := 57) (fr := (0, 0)) (heap_alloc_new w10 _)) (by simp [Value.oneCell']) (by omega) h63 hbb (by have := hc10.size; have := HZ.out; first | (simp; omega) | omega) (w10.heap.size + 1) (by simp) ?_; intro gg cap1 w11 hown1 hgrow hat hlt1; have hd1 := prt_grown (HR.out w10 hc10 _) (((K8.out w10 hc10).2.1).below ((Below.refl _ w10).alloc (Nat.le_refl _) _)) HZ.out.2.2 hgrow; obtain ⟨_, _, _, r3, _, _, _, _, _, f3, _⟩ := id hd1.cells; clear hd1))
      all_goals
        have HH := Lib.hid (HFin.out w10 hc10 w11 gg cap1 hown1 hgrow)
        have zH := HH.out.1
        clear hown1 hgrow hat hlt1 hc10 hc9 k0 k1 k2 k3 m0 m1 m2 m3 n0 n1' n2' n3'
        go_wp2
        go_roundw
        case rel => exact ⟨i + 1, _, _, by omega, by go_num, zH, Lib.hid HH.out.2⟩
        case measure => simp [intOf]; omega
    · obtain rfl : i = n2 := by omega
      have etk : p.typ.2.2.take i = p.typ.2.2 := List.take_of_length_le (by rw [HP.out.1.2]; exact Nat.le_refl _)
      have K12 : Hid (Below w.heap.size w wr ∧ PrtAt wr w.heap.size (.slice a1 n1 c1) (.string X) (.string Y) (.slice a2 i c2) (.string D) (.slice a3 n3 c3) ∧ PrtAt wr w1.heap.size (.slice none 0 0) (.string ⟨#[]⟩) (.string ⟨#[]⟩) (.slice none 0 0) (.string ⟨#[]⟩) (.slice none 0 0) ∧ PrtAt wr w3.heap.size (.slice none 0 0) (.string X) (.string Y) (.slice ao i cap) (.string D) (.slice none 0 0) ∧ ParsP wr (fun g => w7.heap.size ≤ g) (.slice ao i cap) p.typ.2.2 ∧ w3.heap.size < w7.heap.size) := Lib.hid (by
        have h5 := hk.out
        rw [etk] at h5
        exact ⟨h5.1, h5.2.1, h5.2.2.1, h5.2.2.2.1, h5.2.2.2.2.new, K7.out.2.2.2.lt⟩)
      clear etk hk
      generalize wr = wq at *
      obtain ⟨t0, t1, t2, t3, t4, t5, _⟩ := K12.out.2.1.cells
      have Hf : Hid (∀ W i (hi : i < p.fields.length), Below w.heap.size w W → ∃ g off, a1 = some ⟨g, off, none⟩ ∧ W.cell? ⟨g, off + i * 2, none⟩ = some (.string (textQ p.fields[i].1)) ∧ W.cell? ⟨g, off + i * 2 + 1, none⟩ = some (.string (textQ p.fields[i].2))) := Lib.hid fun W i hi hW => by
        obtain ⟨ao, cap, e, _, _, h4⟩ := (HS.out.2.1.below hW HS.out.2.2).f
        cases e
        obtain ⟨g, off, q1, _, q3, q4⟩ := h4 i hi
        exact ⟨g, off, q1, q3, q4⟩
      obtain ⟨j0, hj0, hy0, hy1, hy2⟩ := info_parts infoField
      clear Hq
      go_wp2
      go_loopw [48] (fun iv W => ∃ (k : Nat) (bo : Option Addr) (kap : Nat), k ≤ n1 ∧ iv = .int .i64 k ∧ wq.heap.size ≤ W.heap.size ∧ Hid (Below w.heap.size w W ∧ PrtAt W w.heap.size (.slice a1 n1 c1) (.string X) (.string Y) (.slice a2 i c2) (.string D) (.slice a3 n3 c3) ∧ PrtAt W w1.heap.size (.slice none 0 0) (.string ⟨#[]⟩) (.string ⟨#[]⟩) (.slice none 0 0) (.string ⟨#[]⟩) (.slice none 0 0) ∧ PrtAt W w3.heap.size (.slice bo k kap) (.string X) (.string Y) (.slice ao i cap) (.string D) (.slice none 0 0) ∧ FieldsOwn W wq.heap.size (.slice bo k kap) (p.fields.take k) ∧ ParsP W (fun g => w7.heap.size ≤ g ∧ g < wq.heap.size) (.slice ao i cap) p.typ.2.2)) (fun iv _ => n1 - (intOf iv).toNat)
      case atStart => exact ⟨0, none, 0, by omega, rfl, Nat.le_refl _, Lib.hid ⟨K12.out.1, K12.out.2.1, K12.out.2.2.1, K12.out.2.2.2.1, World.ownsRow_nil _ _ _ _, K12.out.2.2.2.2.1.to (stay_self fun g h1 h2 => ⟨h1, h2⟩)⟩⟩
      case round =>
        obtain ⟨k, bo, kap, hkn, rfl, hbz, hk⟩ := hrel
        clear t0 t1 t2 t3 t4 t5
        by_cases hlt : k < n1
        · have hil : k < p.fields.length := by rw [HP.out.1.1]; exact hlt
          obtain ⟨g, off, rfl, x0, x1⟩ := Hf.out wr k hil hk.out.1
          obtain ⟨s1, s2⟩ := HS.out.1.1 _ (List.getElem_mem hil)
          have htk := List.take_succ_eq_append_getElem hil
          obtain ⟨f, hf⟩ : ∃ f, p.fields[k] = f := ⟨_, rfl⟩
          rw [hf] at x0 x1 s1 s2 htk
          obtain ⟨P, hP⟩ : ∃ P, textQ f.1 = P := ⟨_, rfl⟩
          obtain ⟨Q, hQ⟩ : ∃ Q, textQ f.2 = Q := ⟨_, rfl⟩
          rw [hP] at x0
          rw [hQ] at x1
          have sP : P.size ≤ 100000000 := by rw [← hP]; exact s1
          have sQ : Q.size ≤ 100000000 := by rw [← hQ]; exact s2
          have e2 : fieldsCells (p.fields.take (k + 1)) = fieldsCells (p.fields.take k) ++ [.string P, .string Q] := by
            rw [htk, fields_snoc, ← hP, ← hQ]
            rfl
          have HE := Lib.hid (And.intro e2 (by rw [List.length_take]; omega : (p.fields.take k).length = k))
          have HE2 := Lib.hid (by rw [List.length_take]; omega : (p.fields.take (k + 1)).length = k + 1)
          obtain ⟨w8, hw8⟩ : ∃ w8, wr.alloc (.cells #[.string P, .string Q] 38) = w8 := ⟨_, rfl⟩
          have b8 : Below wr.heap.size wr w8 := by rw [← hw8]; exact (Below.refl _ _).alloc (Nat.le_refl _) _
          have z8 : wr.heap.size < w8.heap.size := by rw [← hw8]; simp
          have q8 : w8.heap[wr.heap.size]? = some (.cells #[.string P, .string Q] 38 (0, 0)) := by rw [← hw8]; exact heap_alloc_new wr _
          have K8 : Hid (∀ W, Below w8.heap.size w8 W → ((W.cell? ⟨w3.heap.size, 0, none⟩ = some (.slice bo k kap) ∧ (∀ o, (W.alloc o).cell? ⟨w3.heap.size, 0, none⟩ = some (.slice bo k kap))) ∧ W.cell? ⟨wr.heap.size, 0, none⟩ = some (.string P) ∧ W.cell? ⟨wr.heap.size, 1, none⟩ = some (.string Q)) ∧ PrtAt W w3.heap.size (.slice bo k kap) (.string X) (.string Y) (.slice ao i cap) (.string D) (.slice none 0 0) ∧ FieldsOwn W wq.heap.size (.slice bo k kap) (p.fields.take k) ∧ Below wr.heap.size wr W) := Lib.hid fun W hW => by
            have hbw : Below wr.heap.size wr W := b8.trans (hW.mono b8.size)
            have n := hk.out.2.2.2.1.below hbw
            obtain ⟨c, _⟩ := n.cells
            have e1 := (hW.block wr.heap.size z8).trans q8
            exact ⟨⟨⟨c, fun o => Lib.cell?_alloc_some o c⟩, Lib.cell_of_heap e1 0, Lib.cell_of_heap e1 1⟩, n, row_take hk.out.2.2.2.2.1 (T := 0) (by have := zz; have := K12.out.2.2.2.1.lt; omega) (.of hbw), hbw⟩
          have HCP : Hid (∀ W, Calls Tryz.prog 21 #[.agg #[.string P, .string Q]] W fun e w' => e = .returned (.agg #[.string P, .string Q]) ∧ Below W.heap.size W w') := Lib.hid fun W => mcopyf_any P Q W sP sQ
          obtain ⟨⟨⟨k0, k1⟩, k2, k3⟩, _⟩ := K8.out w8 (Below.refl _ _)
          have HR : Hid (∀ W, Below w8.heap.size w8 W → ∀ o, (W.alloc o).ownsRow wq.heap.size 38 2 (.slice bo k kap) k (fieldsCells (p.fields.take k))) := Lib.hid fun W hW o => by
            have h5 : FieldsOwn (W.alloc o) wq.heap.size (.slice bo k kap) (p.fields.take k) := World.ownsRow.alloc (K8.out W hW).2.2.1 o
            unfold FieldsOwn at h5
            rw [HE.out.2] at h5
            exact h5
          have h63 : k + 1 ≤ maxLen := by unfold maxLen; omega
          have hbb : (k + 1) * 32 ≤ 140737488355328 := by omega
          have z38 : w3.heap.size < wq.heap.size := K12.out.2.2.2.1.lt
          have z78 : w7.heap.size ≤ wq.heap.size := by assumption
          have HZ := Lib.hid (And.intro hbz (And.intro z8 (And.intro z38 z78)))
          have HFin : Hid (∀ (w10 : World), Below w8.heap.size w8 w10 → ∀ (w11 : World) gg cap1, w11.ownsRow wq.heap.size 38 2 (.slice (some ⟨gg, 0, none⟩) (k + 1) cap1) (k + 1) (fieldsCells (p.fields.take k) ++ [.string P, .string Q]) → (w10.alloc (.cells #[.string P, .string Q] 38)).grownBy w11 (Value.slice bo k kap).ownBlock →
              wq.heap.size ≤ (w11.setCell ⟨w3.heap.size, 0, none⟩ (.slice (some ⟨gg, 0, none⟩) (k + 1) cap1)).heap.size ∧ Below w.heap.size w (w11.setCell ⟨w3.heap.size, 0, none⟩ (.slice (some ⟨gg, 0, none⟩) (k + 1) cap1)) ∧ PrtAt (w11.setCell ⟨w3.heap.size, 0, none⟩ (.slice (some ⟨gg, 0, none⟩) (k + 1) cap1)) w.heap.size (.slice (some ⟨g, off, none⟩) n1 c1) (.string X) (.string Y) (.slice a2 i c2) (.string D) (.slice a3 n3 c3) ∧ PrtAt (w11.setCell ⟨w3.heap.size, 0, none⟩ (.slice (some ⟨gg, 0, none⟩) (k + 1) cap1)) w1.heap.size (.slice none 0 0) (.string ⟨#[]⟩) (.string ⟨#[]⟩) (.slice none 0 0) (.string ⟨#[]⟩) (.slice none 0 0) ∧ PrtAt (w11.setCell ⟨w3.heap.size, 0, none⟩ (.slice (some ⟨gg, 0, none⟩) (k + 1) cap1)) w3.heap.size (.slice (some ⟨gg, 0, none⟩) (k + 1) cap1) (.string X) (.string Y) (.slice ao i cap) (.string D) (.slice none 0 0) ∧ FieldsOwn (w11.setCell ⟨w3.heap.size, 0, none⟩ (.slice (some ⟨gg, 0, none⟩) (k + 1) cap1)) wq.heap.size (.slice (some ⟨gg, 0, none⟩) (k + 1) cap1) (p.fields.take (k + 1)) ∧ ParsP (w11.setCell ⟨w3.heap.size, 0, none⟩ (.slice (some ⟨gg, 0, none⟩) (k + 1) cap1)) (fun g => w7.heap.size ≤ g ∧ g < wq.heap.size) (.slice ao i cap) p.typ.2.2) := Lib.hid fun w10 hc10 w11 gg cap1 hown1 hgrow => by
            obtain ⟨_, hn, ho, hbw⟩ := K8.out w10 hc10
            have hal : Below w10.heap.size w10 (w10.alloc (.cells #[.string P, .string Q] 38)) := (Below.refl _ w10).alloc (Nat.le_refl _) _
            have hro := HR.out w10 hc10 (.cells #[.string P, .string Q] 38)
            have hbz := HZ.out.1
            have hz10 := hc10.size
            have hz11 := hgrow.size
            have hza : (w10.alloc (.cells #[.string P, .string Q] 38)).heap.size = w10.heap.size + 1 := World.size_alloc _ _
            have hzs : (w11.setCell ⟨w3.heap.size, 0, none⟩ (.slice (some ⟨gg, 0, none⟩) (k + 1) cap1)).heap.size = w11.heap.size := by simp [World.setCell]
            have hst : ∀ b, b < wq.heap.size → b ≠ w3.heap.size → (w11.setCell ⟨w3.heap.size, 0, none⟩ (.slice (some ⟨gg, 0, none⟩) (k + 1) cap1)).heap[b]? = wr.heap[b]? := fun b h1 h2 => by
              have e1 := Below.heap_setCell w11 ⟨w3.heap.size, 0, none⟩ (.slice (some ⟨gg, 0, none⟩) (k + 1) cap1) b h2
              have e2 := hgrow.block b (by omega) (fun e => by have := (hro.lt b e.symm).1; omega)
              have e3 := hal.block b (by omega)
              have e4 := hbw.block b (by omega)
              exact e1.trans (e2.trans (e3.trans e4))
            have hz3 := HZ.out.2.2
            have hzk := K12.out.2.2.2.2.2
            refine ⟨by omega, ?_, ?_, ?_, ?_, ?_, ?_⟩
            · have hg1 : Below w.heap.size w w11 := ((hk.out.1.trans (hbw.mono hk.out.1.size)).trans (hal.mono (by have := hk.out.1.size; omega))).grown hgrow (by have := hk.out.1.size; omega) (fun k hk2 => by have := (hro.lt k hk2).1; have := zz; omega)
              exact hg1.setCell (p := ⟨w3.heap.size, 0, none⟩) (Nat.le_of_lt zz) _
            · exact (hst _ (by omega) (by omega)).trans hk.out.2.1
            · exact (hst _ (by omega) (by omega)).trans hk.out.2.2.1
            · exact (prt_grown hro (hn.below hal) hz3.1 hgrow).fields _
            · have h5 := ownsRow_setCell_below hown1 (a := ⟨w3.heap.size, 0, none⟩) hz3.1 (.slice (some ⟨gg, 0, none⟩) (k + 1) cap1)
              unfold FieldsOwn
              rw [HE2.out, HE.out.1]
              exact h5
            · exact hk.out.2.2.2.2.2.to fun g hg _ => ⟨hg, fun jj => cell_block (hst g hg.2 (by omega))⟩
          clear hf hP hQ htk e2 b8 q8 hil s1 s2 hbz z38
          go_wp2_with fail
          go_region_law (first
            | (go_simp; go_at_call 21; (with_reducible refine (HCP.out _).mono ?_); rintro e w10 ⟨rfl, hb9⟩; have hc10 : Below w8.heap.size w8 w10 := (below_drewN (Below.refl _ w8) 1).trans hb9; obtain ⟨⟨⟨m0, m1⟩, m2, m3⟩, _⟩ := K8.out w10 hc10; clear hb9)
            | (refine step_append_lies _ (by rfl) _ _ _ (by rfl) wq.heap.size 38 j0 _ 2 32 Tryz.underlying23 hj0 hy0 hy1 hy2 rfl (by omega) (.slice bo k kap) k (fieldsCells (p.fields.take k)) (by rfl) (HR.out w10 hc10 _) ⟨w10.heap.size, 0, none⟩ 1 1 [.string P, .string Q] (by rfl) (by rfl) (World.news_of_block (cs := #[.string P, .string Q]) (t := 38) (fr := (0, 0)) (heap_alloc_new w10 _)) (by simp [Value.oneCell']) (by omega) h63 hbb (by have := hc10.size; have := HZ.out; first | (simp; omega) | omega) (w10.heap.size + 1) (by simp) ?_; intro gg cap1 w11 hown1 hgrow hat hlt1; have hd1 := prt_grown (HR.out w10 hc10 _) (((K8.out w10 hc10).2.1).below ((Below.refl _ w10).alloc (Nat.le_refl _) _)) HZ.out.2.2.1 hgrow; obtain ⟨r3, _, _, _, _, _, f3, _⟩ := id hd1.cells; clear hd1))
          all_goals
            have HH := Lib.hid (HFin.out w10 hc10 w11 gg cap1 hown1 hgrow)
            have zH := HH.out.1
            clear hown1 hgrow hat hlt1 hc10 k0 k1 k2 k3 m0 m1 m2 m3
            go_wp2
            go_roundw
            case rel => exact ⟨k + 1, _, _, by omega, by go_num, zH, Lib.hid HH.out.2⟩
            case measure => simp [intOf]; omega
        · obtain rfl : k = n1 := by omega
          have etk : p.fields.take k = p.fields := List.take_of_length_le (by rw [HP.out.1.1]; exact Nat.le_refl _)
          obtain ⟨y0, y1, y2, y3, y4, y5, v0, v1, v2, v3, v4, v5⟩ := hk.out.2.2.1.cells
          obtain ⟨x0, x1, x2, x3, x4, x5, _⟩ := hk.out.2.2.2.1.cells
          have pk := (hk.out.2.2.1.put (.slice bo k kap) (.string X) (.string Y) (.slice ao i cap) (.string D) (.slice none 0 0)).cells
          unfold putP at pk
          obtain ⟨k0, k1, k2, k3, k4, k5, _⟩ := pk
          have Fin : Hid (∃ fv' pv', Ending.returned (.agg #[.slice bo k kap, .string X, .string Y, .slice ao i cap, .string D, .slice none 0 0]) = .returned (partV (.mk p.fields p.typ p.body []) fv' pv' (.slice none 0 0)) ∧ FieldsP (putP wr w1.heap.size (.slice bo k kap) (.string X) (.string Y) (.slice ao i cap) (.string D) (.slice none 0 0)) (fun g => w.heap.size ≤ g) fv' p.fields ∧ ParsP (putP wr w1.heap.size (.slice bo k kap) (.string X) (.string Y) (.slice ao i cap) (.string D) (.slice none 0 0)) (fun g => w.heap.size ≤ g) pv' p.typ.2.2 ∧ Below w.heap.size w (putP wr w1.heap.size (.slice bo k kap) (.string X) (.string Y) (.slice ao i cap) (.string D) (.slice none 0 0))) := Lib.hid (by
            have h5 := hk.out
            rw [etk] at h5
            have h6 := h5.2.2.2.2.1.new
            have hzk := K12.out.2.2.2.2.2
            have hz3 := K12.out.2.2.2.1.lt
            refine ⟨.slice bo k kap, .slice ao i cap, by rw [← HP.out.2.1, ← HP.out.2.2.1, ← HP.out.2.2.2]; rfl, h6.to fun g hg _ => ⟨by omega, fun jj => cell_block (putP_block (by omega) _ _ _ _ _ _)⟩, h5.2.2.2.2.2.to fun g hg _ => ⟨by omega, fun jj => cell_block (putP_block (by omega) _ _ _ _ _ _)⟩, below_putP h5.1 (Nat.le_of_lt z1) _ _ _ _ _ _⟩)
          clear hk etk
          go_wp2
          refine bodyPost_ret (v := .agg #[.slice bo k kap, .string X, .string Y, .slice ao i cap, .string D, .slice none 0 0]) (by simp [results, Tryz.f13, go_sem, k0, k1, k2, k3, k4, k5]) rfl Fin.out
end Go.Proofs.YtjikghndoklajaaGreatDoor
