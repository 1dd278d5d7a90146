/-
  Texts of this proof, put together: RgA, RgG, F64, RgH, RgN.
-/
import Derived.Test.YtjikghndoklajaaGreatDoorZ17
import Derived.Test.YtjikghndoklajaaGreatDoorZ39
import Derived.Test.YtjikghndoklajaaGreatDoorZ38
import Derived.Test.YtjikghndoklajaaGreatDoorZ40
import Derived.Test.YtjikghndoklajaaGreatDoorZ23
import Derived.Test.YtjikghndoklajaaGreatDoorZ11
import Derived.Test.YtjikghndoklajaaGreatDoorZ27
import Derived.Test.YtjikghndoklajaaGreatDoorZ25
import Derived.Test.YtjikghndoklajaaGreatDoorZ28
namespace Go.Proofs.YtjikghndoklajaaGreatDoor
open Go.RowKit

def laidV (p : TreeM) (fv pv rv : Value) (s : TextH) : Value := .agg #[fv, .string (textQ p.typ.1), .string (textQ p.typ.2.1), pv, .string (textQ p.body), rv, .string (textQ s)]
def LdAt (w : World) (B : Nat) (a b c d e f g : Value) : Prop := w.heap[B]? = some (.cells #[a, b, c, d, e, f, g] 43 (0, 0))
section
variable {w w' : World} {B : Nat} {a b c d e f g : Value}
theorem LdAt.lt (h : LdAt w B a b c d e f g) : B < w.heap.size := heap_lt h
theorem LdAt.cells (h : LdAt w B a b c d e f g) : w.cell? ⟨B, 0, none⟩ = some a ∧ w.cell? ⟨B, 1, none⟩ = some b ∧ w.cell? ⟨B, 2, none⟩ = some c ∧ w.cell? ⟨B, 3, none⟩ = some d ∧ w.cell? ⟨B, 4, none⟩ = some e ∧ w.cell? ⟨B, 5, none⟩ = some f ∧ w.cell? ⟨B, 6, none⟩ = some g ∧
    w.frozen? ⟨B, 0, none⟩ = false ∧ w.frozen? ⟨B, 1, none⟩ = false ∧ w.frozen? ⟨B, 2, none⟩ = false ∧ w.frozen? ⟨B, 3, none⟩ = false ∧ w.frozen? ⟨B, 4, none⟩ = false ∧ w.frozen? ⟨B, 5, none⟩ = false ∧ w.frozen? ⟨B, 6, none⟩ = false :=
  ⟨Lib.cell_of_heap h 0, Lib.cell_of_heap h 1, Lib.cell_of_heap h 2, Lib.cell_of_heap h 3, Lib.cell_of_heap h 4, Lib.cell_of_heap h 5, Lib.cell_of_heap h 6, Lib.frozen_of_heap h 0, Lib.frozen_of_heap h 1, Lib.frozen_of_heap h 2, Lib.frozen_of_heap h 3, Lib.frozen_of_heap h 4, Lib.frozen_of_heap h 5, Lib.frozen_of_heap h 6⟩
theorem LdAt.below (h : LdAt w B a b c d e f g) (hb : Below w.heap.size w w') : LdAt w' B a b c d e f g := (hb.block _ h.lt).trans h
theorem ld_new (w : World) (a b c d e f g : Value) : LdAt (w.alloc (.cells #[a, b, c, d, e, f, g] 43)) w.heap.size a b c d e f g := heap_alloc_new w _
def putD (w : World) (B : Nat) (a b c d e f g : Value) : World := ((((((w.setCell ⟨B, 0, none⟩ a).setCell ⟨B, 1, none⟩ b).setCell ⟨B, 2, none⟩ c).setCell ⟨B, 3, none⟩ d).setCell ⟨B, 4, none⟩ e).setCell ⟨B, 5, none⟩ f).setCell ⟨B, 6, none⟩ g
theorem LdAt.put (h : LdAt w B a b c d e f g) (a' b' c' d' e' f' g' : Value) : LdAt (putD w B a' b' c' d' e' f' g') B a' b' c' d' e' f' g' := by
  unfold LdAt at h ⊢
  unfold putD
  have h1 := heap_setCell_same w B 0 _ _ a' h
  have h2 := heap_setCell_same _ B 1 _ _ b' h1
  have h3 := heap_setCell_same _ B 2 _ _ c' h2
  have h4 := heap_setCell_same _ B 3 _ _ d' h3
  have h5 := heap_setCell_same _ B 4 _ _ e' h4
  have h6 := heap_setCell_same _ B 5 _ _ f' h5
  have h7 := heap_setCell_same _ B 6 _ _ g' h6
  rw [h7]
  rfl
theorem below_putD {M : Nat} {v : World} (h : Below M v w) (hB : M ≤ B) (a b c d e f g : Value) : Below M v (putD w B a b c d e f g) := by
  unfold putD
  exact ((((((h.setCell (p := ⟨B, 0, none⟩) hB _).setCell (p := ⟨B, 1, none⟩) hB _).setCell (p := ⟨B, 2, none⟩) hB _).setCell (p := ⟨B, 3, none⟩) hB _).setCell (p := ⟨B, 4, none⟩) hB _).setCell (p := ⟨B, 5, none⟩) hB _).setCell (p := ⟨B, 6, none⟩) hB _
end
theorem textQ_app (a : TextH) (raw : ByteArray) : textQ (a ++ raw.data.toList) = textQ a ++ raw := by
  apply ByteArray.ext
  rw [ByteArray.data_append]
  unfold textQ
  simp
def noneV : Value := .agg #[.slice none 0 0, .string ⟨#[]⟩, .string ⟨#[]⟩, .slice none 0 0, .string ⟨#[]⟩, .slice none 0 0, .string ⟨#[]⟩]

set_option maxRecDepth 100000 in
set_option maxHeartbeats 4000000 in
theorem gheaded_any (B : Nat) (p : TreeM) (fv pv rv : Value) (raw : ByteArray) (w : World) (h : TreeAt w B p fv pv rv) (hB : B ≤ w.heap.size) (hsm : SmallF 100000 p.fields) (hraw : raw.size ≤ 10000000) (hbig : (printH p.fields).1.length ≤ 100000000) :
    Calls Tryz.prog 56 #[partV p fv pv rv, .string raw] w fun e w' => Below w.heap.size w w' ∧ ((headD p.fields p.typ p.body p.parts raw.data.toList).2 = 0 → e = .returned (.tuple #[laidV p fv pv rv (headD p.fields p.typ p.body p.parts raw.data.toList).1.2, .int .i64 0])) ∧
      ((headD p.fields p.typ p.body p.parts raw.data.toList).2 ≠ 0 → e = .returned (.tuple #[noneV, .int .i64 (headD p.fields p.typ p.body p.parts raw.data.toList).2])) := by
  obtain ⟨⟨a1, n1, c1, rfl⟩, ⟨a2, n2, c2, rfl⟩, ⟨a3, n3, c3, rfl⟩⟩ := h.slices
  obtain ⟨w1, hw1⟩ : ∃ w1, (w.alloc (.cells #[.slice a1 n1 c1, .string (textQ p.typ.1), .string (textQ p.typ.2.1), .slice a2 n2 c2, .string (textQ p.body), .slice a3 n3 c3] 29)).alloc (.cells #[.slice none 0 0, .string ⟨#[]⟩, .string ⟨#[]⟩, .slice none 0 0, .string ⟨#[]⟩, .slice none 0 0, .string ⟨#[]⟩] 43) = w1 := ⟨_, rfl⟩
  have b1 : Below w.heap.size w w1 := by rw [← hw1]; exact ((Below.refl _ _).alloc (Nat.le_refl _) _).alloc (by simp) _
  have z1 : w1.heap.size = w.heap.size + 2 := by rw [← hw1]; simp
  have p1 : PrtAt w1 w.heap.size (.slice a1 n1 c1) (.string (textQ p.typ.1)) (.string (textQ p.typ.2.1)) (.slice a2 n2 c2) (.string (textQ p.body)) (.slice a3 n3 c3) := by
    rw [← hw1]
    exact (prt_new w _ _ _ _ _ _).below ((Below.refl _ _).alloc (Nat.le_refl _) _)
  have l1 : LdAt w1 (w.heap.size + 1) (.slice none 0 0) (.string ⟨#[]⟩) (.string ⟨#[]⟩) (.slice none 0 0) (.string ⟨#[]⟩) (.slice none 0 0) (.string ⟨#[]⟩) := by
    rw [← hw1]
    have := ld_new (w.alloc (.cells #[.slice a1 n1 c1, .string (textQ p.typ.1), .string (textQ p.typ.2.1), .slice a2 n2 c2, .string (textQ p.body), .slice a3 n3 c3] 29)) (.slice none 0 0) (.string ⟨#[]⟩) (.string ⟨#[]⟩) (.slice none 0 0) (.string ⟨#[]⟩) (.slice none 0 0) (.string ⟨#[]⟩)
    rw [World.size_alloc] at this
    exact this
  have hpr := hprint_any B (.slice a1 n1 c1) p.fields w1 (h.below b1 hB).f (by omega) hsm
  unfold printV10 at hpr
  obtain ⟨R, hR⟩ : ∃ R, headD p.fields p.typ p.body p.parts raw.data.toList = R := ⟨_, rfl⟩
  rw [hR]
  unfold headD at hR
  unfold partV laidV
  obtain ⟨X, hX⟩ : ∃ X, textQ p.typ.1 = X := ⟨_, rfl⟩
  obtain ⟨Y, hY⟩ : ∃ X, textQ p.typ.2.1 = X := ⟨_, rfl⟩
  obtain ⟨D, hD⟩ : ∃ X, textQ p.body = X := ⟨_, rfl⟩
  rw [hX, hY, hD] at hw1 p1
  rw [hX, hY, hD]
  obtain ⟨H, hH⟩ : ∃ H, printH p.fields = H := ⟨_, rfl⟩
  rw [hH] at hpr hbig hR
  clear hH
  obtain ⟨ht, hc⟩ := H
  replace hpr : Calls Tryz.prog 88 #[.slice a1 n1 c1] w1 fun e w' => e = .returned (.tuple #[.string (textQ ht), .int .i64 hc]) ∧ Below w1.heap.size w1 w' := hpr
  replace hbig : ht.length ≤ 100000000 := hbig
  have hrl : raw.data.toList.length = raw.size := rfl
  obtain ⟨T, hT⟩ : ∃ T, textQ ht = T := ⟨_, rfl⟩
  have hTs : T.size = ht.length := by rw [← hT]; rfl
  have K1 : Hid (∀ W, Below w1.heap.size w1 W → PrtAt W w.heap.size (.slice a1 n1 c1) (.string X) (.string Y) (.slice a2 n2 c2) (.string D) (.slice a3 n3 c3) ∧ LdAt W (w.heap.size + 1) (.slice none 0 0) (.string ⟨#[]⟩) (.string ⟨#[]⟩) (.slice none 0 0) (.string ⟨#[]⟩) (.slice none 0 0) (.string ⟨#[]⟩) ∧ Below w.heap.size w W) := Lib.hid fun W hW => ⟨p1.below hW, l1.below hW, b1.trans (hW.mono (by omega))⟩
  obtain ⟨c0, c1', c2', c3', c4', c5', _⟩ := p1.cells
  have HX := Lib.hid (And.intro hX (And.intro hY (And.intro hD hT)))
  rw [hT] at hpr
  clear p1 l1 b1 h hsm hX hY hD
  by_cases hc0 : hc = 0
  · subst hc0
    by_cases hl : 16384 < ht.length + raw.data.toList.length
    · have hR2 : R.2 = 3 := by
        rw [← hR]
        simp only [ne_eq, not_true_eq_false, if_false, hl, if_true]
      suffices hm : Calls Tryz.prog 56 #[.agg #[.slice a1 n1 c1, .string X, .string Y, .slice a2 n2 c2, .string D, .slice a3 n3 c3], .string raw] w fun e w' => Below w.heap.size w w' ∧ e = .returned (.tuple #[noneV, .int .i64 3]) by
        refine hm.mono fun e w' hq => ?_
        rw [hR2]
        exact ⟨hq.1, fun h => absurd h (by decide), fun _ => hq.2⟩
      clear hR
      have hl2 : decide ((16384 : Int) < (T.size : Int) + (raw.size : Int)) = true := decide_eq_true (by omega)
      have hTb : T.size ≤ 100000000 := by omega
      clear hl hTs hrl hbig
      go_enter Tryz.func56, Tryz.ntmps56
      go_wp2_with fail
      refine hpr.mono ?_
      rintro e w2 ⟨rfl, hb⟩
      obtain ⟨k1, k2, k3⟩ := K1.out w2 hb
      obtain ⟨y0, y1, y2, y3, y4, y5, y6, f0, f1, f2, f3, f4, f5, f6⟩ := k2.cells
      obtain ⟨u0, u1, u2, u3, u4, u5, u6, _⟩ := (k2.put (.slice none 0 0) (.string ⟨#[]⟩) (.string ⟨#[]⟩) (.slice none 0 0) (.string ⟨#[]⟩) (.slice none 0 0) (.string ⟨#[]⟩)).cells
      have Bl := Lib.hid (below_putD k3 (show w.heap.size ≤ w.heap.size + 1 by omega) (.slice none 0 0) (.string ⟨#[]⟩) (.string ⟨#[]⟩) (.slice none 0 0) (.string ⟨#[]⟩) (.slice none 0 0) (.string ⟨#[]⟩))
      unfold putD at u0 u1 u2 u3 u4 u5 u6 Bl
      clear hpr hb k1 k2 k3 K1 c0 c1' c2' c3' c4' c5'
      go_wp2
      refine bodyPost_ret (v := .tuple #[noneV, .int .i64 3]) (by simp [noneV, results, Tryz.f56, go_sem, u0, u1, u2, u3, u4, u5, u6]) rfl ⟨Bl.out, rfl⟩
    · have hR2 : R.2 = 0 ∧ R.1.2 = ht ++ raw.data.toList := by
        rw [← hR]
        simp only [ne_eq, not_true_eq_false, if_false, hl]
        (first | exact ⟨rfl, rfl⟩ | exact ⟨trivial, rfl⟩ | simp)
      suffices hm : Calls Tryz.prog 56 #[.agg #[.slice a1 n1 c1, .string X, .string Y, .slice a2 n2 c2, .string D, .slice a3 n3 c3], .string raw] w fun e w' => Below w.heap.size w w' ∧ e = .returned (.tuple #[.agg #[.slice a1 n1 c1, .string X, .string Y, .slice a2 n2 c2, .string D, .slice a3 n3 c3, .string (textQ (ht ++ raw.data.toList))], .int .i64 0]) by
        refine hm.mono fun e w' hq => ?_
        rw [hR2.1, hR2.2]
        exact ⟨hq.1, fun _ => hq.2, fun h => absurd rfl h⟩
      clear hR
      have hl2 : decide ((16384 : Int) < (T.size : Int) + (raw.size : Int)) = false := decide_eq_false (by omega)
      have hTb : T.size ≤ 100000000 := by omega
      clear hl hTs hrl hbig
      have hcat : textQ (ht ++ raw.data.toList) = T ++ raw := by rw [← HX.out.2.2.2]; exact textQ_app ht raw
      rw [hcat]
      go_enter Tryz.func56, Tryz.ntmps56
      go_wp2_with fail
      refine hpr.mono ?_
      rintro e w2 ⟨rfl, hb⟩
      obtain ⟨k1, k2, k3⟩ := K1.out w2 hb
      clear c0 c1' c2' c3' c4' c5'
      obtain ⟨c0, c1', c2', c3', c4', c5', _⟩ := k1.cells
      obtain ⟨y0, y1, y2, y3, y4, y5, y6, f0, f1, f2, f3, f4, f5, f6⟩ := k2.cells
      obtain ⟨u0, u1, u2, u3, u4, u5, u6, _⟩ := (k2.put (.slice a1 n1 c1) (.string X) (.string Y) (.slice a2 n2 c2) (.string D) (.slice a3 n3 c3) (.string (T ++ raw))).cells
      have Bl := Lib.hid (below_putD k3 (show w.heap.size ≤ w.heap.size + 1 by omega) (.slice a1 n1 c1) (.string X) (.string Y) (.slice a2 n2 c2) (.string D) (.slice a3 n3 c3) (.string (T ++ raw)))
      unfold putD at u0 u1 u2 u3 u4 u5 u6 Bl
      clear hpr hb k1 k2 k3 K1
      go_wp2
      refine bodyPost_ret (v := .tuple #[.agg #[.slice a1 n1 c1, .string X, .string Y, .slice a2 n2 c2, .string D, .slice a3 n3 c3, .string (T ++ raw)], .int .i64 0]) (by simp [results, Tryz.f56, go_sem, u0, u1, u2, u3, u4, u5, u6]) rfl ⟨Bl.out, rfl⟩
  · have hcc : ((hc : Int) != 0) = true := by simpa using hc0
    have hR2 : R.2 = hc := by
      rw [← hR]
      simp only [ne_eq, hc0, not_false_eq_true, if_true]
    suffices hm : Calls Tryz.prog 56 #[.agg #[.slice a1 n1 c1, .string X, .string Y, .slice a2 n2 c2, .string D, .slice a3 n3 c3], .string raw] w fun e w' => Below w.heap.size w w' ∧ e = .returned (.tuple #[noneV, .int .i64 hc]) by
      refine hm.mono fun e w' hq => ?_
      rw [hR2]
      exact ⟨hq.1, fun h => absurd h hc0, fun _ => hq.2⟩
    clear hR
    go_enter Tryz.func56, Tryz.ntmps56
    go_wp2_with fail
    refine hpr.mono ?_
    rintro e w2 ⟨rfl, hb⟩
    obtain ⟨k1, k2, k3⟩ := K1.out w2 hb
    obtain ⟨y0, y1, y2, y3, y4, y5, y6, f0, f1, f2, f3, f4, f5, f6⟩ := k2.cells
    obtain ⟨u0, u1, u2, u3, u4, u5, u6, _⟩ := (k2.put (.slice none 0 0) (.string ⟨#[]⟩) (.string ⟨#[]⟩) (.slice none 0 0) (.string ⟨#[]⟩) (.slice none 0 0) (.string ⟨#[]⟩)).cells
    have Bl := Lib.hid (below_putD k3 (show w.heap.size ≤ w.heap.size + 1 by omega) (.slice none 0 0) (.string ⟨#[]⟩) (.string ⟨#[]⟩) (.slice none 0 0) (.string ⟨#[]⟩) (.slice none 0 0) (.string ⟨#[]⟩))
    unfold putD at u0 u1 u2 u3 u4 u5 u6 Bl
    clear hpr hb k1 k2 k3 K1 c0 c1' c2' c3' c4' c5'
    go_wp2
    refine bodyPost_ret (v := .tuple #[noneV, .int .i64 hc]) (by simp [noneV, results, Tryz.f56, go_sem, u0, u1, u2, u3, u4, u5, u6]) rfl ⟨Bl.out, rfl⟩
end Go.Proofs.YtjikghndoklajaaGreatDoor
namespace Go.Proofs.YtjikghndoklajaaGreatDoor
open Go.RowKit

theorem unfield_len (l : List FieldH) : (unfieldM l).length ≤ l.length := by
  unfold unfieldM
  exact List.length_filter_le _ _
set_option maxRecDepth 100000 in
set_option maxHeartbeats 4000000 in
theorem gtyped_any (B : Nat) (p : TreeM) (fv pv rv : Value) (t : TypeC) (u : Value) (w : World) (h : TreeAt w B p fv pv rv) (hB : B ≤ w.heap.size) (hu : ParsAt w B u t.2.2) (hr : rightC t = true) (hsm : SmallF 1000000 p.fields) (hl : p.fields.length ≤ 1000000) :
    Calls Tryz.prog 55 #[partV p fv pv rv, typeV t u] w fun e w' => ∃ v, e = .returned v ∧ FieldsOwn w' w.heap.size v (unfieldM p.fields ++ [(ctM, textC t)]) ∧ Below w.heap.size w w' := by
  have hun := fun W (hW : Below w.heap.size w W) => munf_any B p fv pv rv W (h.below hW hB) (Nat.le_trans hB hW.size) hsm hl
  have hpr := fun W (hW : Below w.heap.size w W) => cprint_any B u t W (hu.below hW hB) (Nat.le_trans hB hW.size)
  obtain ⟨⟨a1, n1, c1, rfl⟩, ⟨a2, n2, c2, rfl⟩, ⟨a3, n3, c3, rfl⟩⟩ := h.slices
  obtain ⟨b2, d2, rfl, _⟩ := hu.slice
  obtain ⟨m2, hm2⟩ : ∃ m2, t.2.2.length = m2 := ⟨_, rfl⟩
  unfold partV at hun ⊢
  unfold typeV at hpr ⊢
  have hpt : printV12 t = .tuple #[.string (textQ (textC t)), .int .i64 0] := by
    unfold printV12 printC
    rw [if_pos hr]
  simp only [hpt] at hpr
  obtain ⟨X, hX⟩ : ∃ X, textQ p.typ.1 = X := ⟨_, rfl⟩
  obtain ⟨Y, hY⟩ : ∃ X, textQ p.typ.2.1 = X := ⟨_, rfl⟩
  obtain ⟨D, hD⟩ : ∃ X, textQ p.body = X := ⟨_, rfl⟩
  obtain ⟨V, hV⟩ : ∃ X, textQ t.1 = X := ⟨_, rfl⟩
  obtain ⟨Z, hZ⟩ : ∃ X, textQ t.2.1 = X := ⟨_, rfl⟩
  obtain ⟨T, hT⟩ : ∃ X, textQ (textC t) = X := ⟨_, rfl⟩
  simp only [hX, hY, hD] at hun
  simp only [hV, hZ, hm2, hT] at hpr
  rw [hX, hY, hD, hV, hZ, hm2]
  obtain ⟨w1, hw1⟩ : ∃ w1, (w.alloc (.cells #[.slice a1 n1 c1, .string X, .string Y, .slice a2 n2 c2, .string D, .slice a3 n3 c3] 29)).alloc (.cells #[.string V, .string Z, .slice b2 m2 d2] 26) = w1 := ⟨_, rfl⟩
  have z1 : w1.heap.size = w.heap.size + 2 := by rw [← hw1]; simp
  have b1 : Below w.heap.size w w1 := by rw [← hw1]; exact ((Below.refl _ _).alloc (Nat.le_refl _) _).alloc (by simp) _
  have p1 : PrtAt w1 w.heap.size (.slice a1 n1 c1) (.string X) (.string Y) (.slice a2 n2 c2) (.string D) (.slice a3 n3 c3) := by
    rw [← hw1]
    exact (prt_new w _ _ _ _ _ _).below ((Below.refl _ _).alloc (Nat.le_refl _) _)
  have t1 : TypAt w1 (w.heap.size + 1) V Z b2 m2 d2 := by
    rw [← hw1]
    have := typ_new (w.alloc (.cells #[.slice a1 n1 c1, .string X, .string Y, .slice a2 n2 c2, .string D, .slice a3 n3 c3] 29)) V Z b2 m2 d2
    rw [World.size_alloc] at this
    exact this
  have hp1 := hpr w1 b1
  obtain ⟨c0, c1', c2', _⟩ := t1.cells
  have Hun := Lib.hid hun
  have HT := Lib.hid (And.intro hT (And.intro hl z1))
  have K1 := Lib.hid (And.intro b1 p1)
  clear h hu hun hpr hX hY hD hV hZ hm2 hT t1 b1 p1 hpt z1
  go_enter Tryz.func55, Tryz.ntmps55
  go_wp2_with fail
  refine hp1.mono ?_
  rintro e w2 ⟨rfl, hb⟩
  have K2 := Lib.hid (And.intro (K1.out.1.trans (hb.mono K1.out.1.size)) (K1.out.2.below hb))
  obtain ⟨y0, y1, y2, y3, y4, y5, _⟩ := K2.out.2.cells
  have hc := Hun.out w2 K2.out.1
  clear hp1 hb K1 c0 c1' c2'
  go_wp2_with fail
  refine hc.mono ?_
  rintro e w3 ⟨v, rfl, ho, hb⟩
  obtain ⟨ao, cap, rfl⟩ := row_slice ho
  obtain ⟨k, hk⟩ : ∃ k, (unfieldM p.fields).length = k := ⟨_, rfl⟩
  rw [hk] at ho ⊢
  have B3 := Lib.hid (K2.out.1.trans (hb.mono K2.out.1.size))
  have O3 := Lib.hid (And.intro ho (And.intro K2.out.1.size hk))
  have hz23 : w2.heap.size ≤ w3.heap.size := hb.size
  clear hc hb K2 y0 y1 y2 y3 y4 y5 ho hk
  go_wp2_with (at_builtin; refine HeldW.of ?_)
  unfold HeldW
  have hal : (unfieldM p.fields).length ≤ 10000000 := by
    have := unfield_len p.fields
    have := HT.out.2.1
    omega
  have b34 : Below w3.heap.size w3 (w3.alloc (.cells #[.string ⟨#[67, 111, 110, 116, 101, 110, 116, 45, 84, 121, 112, 101]⟩, .string T] 38)) := (Below.refl _ _).alloc (Nat.le_refl _) _
  have q4 := heap_alloc_new w3 (.cells #[.string ⟨#[67, 111, 110, 116, 101, 110, 116, 45, 84, 121, 112, 101]⟩, .string T] 38)
  have o4 : FieldsOwn (w3.alloc (.cells #[.string ⟨#[67, 111, 110, 116, 101, 110, 116, 45, 84, 121, 112, 101]⟩, .string T] 38)) w2.heap.size (.slice ao k cap) (unfieldM p.fields) := ownsRow_below4 O3.out.1 b34
  refine wpList_append_field rfl _ _ rfl w2.heap.size (.slice ao k cap) (unfieldM p.fields) (ctM, textC t) rfl o4 (Nat.le_trans hz23 b34.size) hal w3.heap.size 1 rfl (Lib.cell_of_heap q4 0) (by rw [HT.out.1]; exact Lib.cell_of_heap q4 1) ?_
  intro v' w5 ho hg
  have Fin : Hid (FieldsOwn w5 w.heap.size v' (unfieldM p.fields ++ [(ctM, textC t)]) ∧ Below w.heap.size w w5) := Lib.hid ⟨row_more ho O3.out.2.1, (B3.out.trans (b34.mono B3.out.size)).grown hg (by have := B3.out.size; have := b34.size; omega) (fun q hq => by have := (row_block o4 hq).1; have := O3.out.2.1; omega)⟩
  obtain ⟨ao', cap', rfl⟩ := row_slice ho
  obtain ⟨q, hq⟩ : ∃ q, (unfieldM p.fields ++ [(ctM, textC t)]).length = q := ⟨_, rfl⟩
  rw [hq] at Fin ⊢
  clear b34 q4 o4 ho hg hal hq
  go_wp2
  go_ret
  exact ⟨_, rfl, Fin.out.1, Fin.out.2⟩
end Go.Proofs.YtjikghndoklajaaGreatDoor
namespace Go.Proofs.YtjikghndoklajaaGreatDoor
open Go.RowKit Go.Shelf

attribute [local go_sem] Oper.semAt_some

def FoldJ (bs B b : Nat) (w : World) (pre : List (List UInt8)) (W : World) : Prop := Lib.BuilderAt 113 5 B b (.pointer (some ⟨b, 0, none⟩)) (Lib.byteCells (pre.flatMap lineE)) W ∧ Below B w W ∧ ∃ x, W.heap[bs]? = some (.cells #[x] 9 (0, 0))
def FoldK (bs : Nat) (A B : World) : Prop := B.heap[bs]? = A.heap[bs]?
theorem box_own {W W' : World} {row : Option Nat} {bs : Nat} (h : ∃ x, W.heap[bs]? = some (.cells #[x] 9 (0, 0))) (hg : W.grownBy W' row) (hr : ∀ r, row = some r → ∃ o : Obj, W.heap[r]? = some o ∧ o.isCells = false) : ∃ x, W'.heap[bs]? = some (.cells #[x] 9 (0, 0)) := by
  obtain ⟨x, h⟩ := h
  refine ⟨x, (hg.block bs (Array.getElem?_eq_some_iff.1 h).1 fun e => ?_).trans h⟩
  obtain ⟨o, ho, hc⟩ := hr bs e.symm
  rw [h] at ho
  cases ho
  cases hc
theorem FoldJ.own {bs B b : Nat} {w : World} {M : Nat} (hB : B ≤ w.heap.size) (hM : B ≤ M) : OwnFrom M (FoldJ bs B b w) := by
  rintro pre W W' row ⟨h1, h2, h5⟩ hg hr
  have hr' : ∀ r, row = some r → ∃ o : Obj, W.heap[r]? = some o ∧ o.isCells = false := fun r e => (hr r e).2
  exact ⟨builder_grown h1 hg hr', h2.grown hg (by have := h2.size; omega) fun k e => by have := (hr k e).1; omega, box_own h5 hg hr'⟩
theorem FoldJ.store {bs B b : Nat} {w : World} (hbs : B ≤ bs) (pre : List (List UInt8)) (A : World) (v : Value) : FoldJ bs B b w pre A → FoldJ bs B b w pre (A.setCell ⟨bs, 0, none⟩ v) := by
  rintro ⟨h1, h2, h5⟩
  refine ⟨builder_other v h1 h5, h2.setCell (p := ⟨bs, 0, none⟩) hbs v, ?_⟩
  obtain ⟨x, h5⟩ := h5
  exact ⟨v, Boxed.set v h5⟩
theorem pre_len {l : List UInt8} {pre rest : List (List UInt8)} {x : List UInt8} (h : chunkB l = pre ++ x :: rest) : (pre.flatMap lineE).length + x.length + 2 ≤ (foldB l).length := by
  rw [fold_chunk l _ rfl, h, List.flatMap_append, List.flatMap_cons, List.length_append, List.length_append]
  unfold lineE
  simp only [List.length_append, List.length_cons, List.length_nil]
  omega
theorem pre_snoc (pre : List (List UInt8)) (x : List UInt8) : Lib.byteCells (pre.flatMap lineE) ++ Lib.strCells ⟨x.toArray⟩ ++ Lib.strCells ⟨#[13, 10]⟩ = Lib.byteCells ((pre ++ [x]).flatMap lineE) := by
  rw [List.flatMap_append, List.flatMap_cons, List.flatMap_nil, List.append_nil, Lib.byteCells_append]
  unfold lineE
  rw [Lib.byteCells_append, List.append_assoc]
  rfl

set_option maxRecDepth 100000 in
set_option maxHeartbeats 2000000 in
theorem fold_any (s : ByteArray) (w : World) (hs : s.size ≤ 1000000) :
    Calls Tryz.prog 218 #[.string s] w fun e w' => e = .returned (.string ⟨(foldB (encB s.data.toList)).toArray⟩) ∧ Below w.heap.size w w' := by
  have hel := enc_len s.data.toList
  have hl : s.data.toList.length = s.size := rfl
  rw [hl] at hel
  refine (callsIn_wide (n := 8)).1 ?_
  refine callsIn_of_wp_marks Tryz.func218 rfl trivial ?_ rfl
  simp only [Tryz.ntmps218, List.size_toArray, List.length_cons, List.length_nil, Nat.reduceAdd, Nat.reduceSub, Array.replicate_succ, Array.replicate_zero, List.push_toArray, List.append_toArray, List.nil_append, List.cons_append]
  gi_wp2_with fail
  refine ⟨trivial, ?_⟩
  refine (callsIn_wide.2 (enc_any s _ (by omega))).mono ?_
  rintro e w1 ⟨rfl, hw1⟩
  obtain ⟨t, ht⟩ : ∃ t : ByteArray, t = ⟨(encB s.data.toList).toArray⟩ := ⟨_, rfl⟩
  have htl : t.data.toList = encB s.data.toList := by rw [ht]
  have hts : t.size ≤ 2000000 := by
    have : t.size = t.data.toList.length := rfl
    rw [this, htl, hel]; omega
  have hfl := fold_size t.data.toList
  rw [show t.data.toList.length = t.size from rfl] at hfl
  rw [← ht]
  have Htl := Lib.hid htl
  have Hfl := Lib.hid hfl
  clear ht hel hl htl hfl
  gi_wp2_with fail
  refine ⟨trivial, ?_⟩
  refine (callsIn_wide.2 (grow_new _ ?g0 ?g1 w1)).mono ?_
  case g0 => omega
  case g1 => omega
  rintro e w2 ⟨rfl, hb2, hw2⟩
  have hz2 : w1.heap.size < w2.heap.size := hb2.lt
  have hB := hw1.size
  gi_wp2_with fail
  refine ⟨trivial, ?_⟩
  refine (callsIn_wide.2 (lines_any t _)).mono ?_
  rintro e w3 ⟨rfl, hw3⟩
  have hx3 : Boxed w3 w2.heap.size 9 (.string t) := by rw [hw3]; exact Boxed.new _ _ _
  have hz3 : w3.heap.size = w2.heap.size + 1 := by rw [hw3]; simp
  have hb3 : Lib.BuilderAt 113 5 w1.heap.size w1.heap.size (.pointer (some ⟨w1.heap.size, 0, none⟩)) (Lib.byteCells (([] : List (List UInt8)).flatMap lineE)) w3 := by
    rw [hw3]
    exact builder_grown hb2 (World.grownBy_alloc _ _ none) (fun r e => by cases e)
  have hw3b : Below w1.heap.size w1 w3 := by
    rw [hw3]
    exact hw2.alloc (by omega) _
  clear hw3 hb2 hw2
  gi_wp2
  refine range_pre (n := 8) (by omega) (gf := 222) (lb := #[.pointer (some ⟨w2.heap.size, 0, none⟩)]) rfl (enters_of Tryz.func222 (by kernel_rfl) rfl)
    (encs := fun x : List UInt8 => #[.string ⟨x.toArray⟩]) (R := fun pre x => x.length ≤ 76 ∧ ∃ rest, chunkB t.data.toList = pre ++ x :: rest) (K := FoldK w2.heap.size) (S := fun ys => ys = chunkB t.data.toList) (Sp := fun pre => ∃ rest, chunkB t.data.toList = pre ++ rest) (bs := w2.heap.size) (by omega) ?seq
    (fun h k => Eq.trans k h) (fun W l o' hl => World.putObj_heap_other (by omega)) (fun _ => rfl)
    (FoldJ w2.heap.size w1.heap.size w1.heap.size w1) (fun _ _ _ => False) (FoldJ.own (Nat.le_refl _) (by omega)) (FoldJ.store (by omega)) (fun _ _ _ _ _ h => h.elim) ⟨hb3, hw3b, _, hx3⟩
    (fun x => { tmps := #[.string s, undef, .string ⟨#[]⟩, .string t, .pointer (some ⟨w1.heap.size, 0, none⟩), .string ⟨x.toArray⟩, .string s, .string t, .string t, .int .i64 t.size, .string t, .int .i64 t.size, .int .i64 ((t.size : Int) + 76), .int .i64 ((t.size : Int) + 76 - 1), .int .i64 (((t.size : Int) + 76 - 1) / 76), .int .i64 (((t.size : Int) + 76 - 1) / 76 * 2), .int .i64 ((t.size : Int) + ((t.size : Int) + 76 - 1) / 76 * 2), .tuple #[], .string t, .func (.func 222) #[] #[.pointer (some ⟨w2.heap.size, 0, none⟩)], .string ⟨x.toArray⟩, undef, undef, undef, undef], defers := [] }) ?assign ?body ?done ?stop
  case seq =>
    intro l J Jx W hW hJs hY h0
    refine lines_in 7 (by omega) l w2.heap.size t J Jx ?_ W ((hW.cell (p := ⟨w2.heap.size, 0, none⟩) (by simp; omega)).trans hx3.cell) (by omega) h0
    intro pre x W1 hj hx
    exact hY pre x W1 hj hx
  case assign =>
    intro l x W C hC
    gi_wp2
    exact hC
  case body =>
    rintro l pre x W ⟨h1, h2, h5⟩ ⟨hx76, rest, hx⟩
    have hpl := pre_len hx
    have hfl := Hfl.out
    have hsz := h2.size
    have hbl : (Lib.byteCells (pre.flatMap lineE)).length = (pre.flatMap lineE).length := Lib.byteCells_length _
    have hxs : (⟨x.toArray⟩ : ByteArray).size = x.length := rfl
    have hw1r := bwrite_k w1.heap.size w1.heap.size _ ⟨x.toArray⟩ W h1 (by omega) hsz
    have hcells : ∃ cs T fz, W.heap[w1.heap.size]? = some (.cells cs T fz) := by
      obtain ⟨_, v, hb, _⟩ := h1
      exact ⟨_, _, _, hb⟩
    have Hbd := Lib.hid (show (Lib.byteCells (pre.flatMap lineE) ++ Lib.strCells ⟨x.toArray⟩).length + 2 ≤ 140737488355328 by rw [List.length_append, hbl, Lib.strCells_length]; omega)
    clear hpl hfl hbl hxs hx
    gi_wp2_with fail
    refine ⟨trivial, ?_⟩
    refine (CallsIn.inRound l (callsIn_wide.2 hw1r)).mono ?_
    rintro e W2 ⟨rfl, hb2, hbe2, ho2, hz2⟩
    have hcells2 : ∃ cs T fz, W2.heap[w1.heap.size]? = some (.cells cs T fz) := by
      obtain ⟨_, v, hb, _⟩ := hb2
      exact ⟨_, _, _, hb⟩
    have hw2r := bwrite_k w1.heap.size w1.heap.size _ ⟨#[13, 10]⟩ W2 hb2 Hbd.out (by omega)
    rw [pre_snoc] at hw2r
    clear hw1r Hbd
    gi_wp2_with fail
    refine ⟨trivial, ?_⟩
    refine (CallsIn.inRound l (callsIn_wide.2 hw2r)).mono ?_
    rintro e W3 ⟨rfl, hb3, hbe3, ho3, hz3⟩
    gi_wp2
    obtain ⟨y, hy⟩ := h5
    have e2 := ho2 _ _ hy (by simp; omega) (fun c fz e => by simp at e)
    have e3 := ho3 _ _ e2 (by simp; omega) (fun c fz e => by simp at e)
    exact ⟨(keeps_of ho2 hcells hz2).trans (keeps_of ho3 hcells2 hz3), e3.trans hy.symm, hb3, (h2.trans hbe2).trans hbe3, y, e3⟩
  case done =>
    rintro D ys W hD rfl ⟨h1, h2, h5⟩ hK
    rw [← fold_chunk _ _ rfl] at h1
    have hstr := Tryz.Builder_String_any_k w1.heap.size w1.heap.size _ W (Lib.IsBuilderF.of (.inr h1)) h2.size
    have hDne : some D ≠ some w1.heap.size := by simp; omega
    clear h1
    gi_wp2_with fail
    refine ⟨trivial, ?_⟩
    refine (callsIn_wide.2 hstr).mono ?_
    rintro e W2 ⟨rfl, _, hbe, ho⟩
    have hK' : W2.heap[D]? = some (.deferred (some [])) := ho D _ hK hDne (fun c fz e => by cases e)
    clear hstr
    gi_wp2
    refine ⟨by simp, .inl ⟨_, _, rfl, run_takeDeferred hK', ?_⟩⟩
    refine ⟨.string ⟨(foldB t.data.toList).toArray⟩, by simp [results, Tryz.f218, go_sem], by rw [Htl.out], ?_⟩
    exact (hw1.trans ((h2.trans hbe).mono hB)).trans (belowK_b (w := w) (Nat.le_refl _) W2 D _ _ (by omega) hK' rfl rfl)
  case stop =>
    rintro D c pre W hD _ h
    exact h.elim
end Go.Proofs.YtjikghndoklajaaGreatDoor
namespace Go.Proofs.YtjikghndoklajaaGreatDoor
open Go.RowKit

def codingV (t : TypeC) : Value := if t.1 = textM then .iface 126 (.agg #[]) else .iface 127 (.agg #[])
set_option maxRecDepth 100000 in
theorem gcodof_any (t : TypeC) (u : Value) (w : World) (hu : ∃ a n c, u = .slice a n c) : Calls Tryz.prog 53 #[typeV t u] w fun e w' => e = .returned (codingV t) ∧ Below w.heap.size w w' := by
  obtain ⟨a, n, c, rfl⟩ := hu
  unfold typeV codingV
  have hq : ((textQ t.1).toList == [116, 101, 120, 116]) = decide (t.1 = textM) := by
    rw [Lib.toList_data, show (textQ t.1).data.toList = t.1 from rfl]
    show (t.1 == textM) = _
    exact Bool.beq_eq_decide_eq _ _
  obtain ⟨X, hX⟩ : ∃ X, textQ t.1 = X := ⟨_, rfl⟩
  obtain ⟨Y, hY⟩ : ∃ X, textQ t.2.1 = X := ⟨_, rfl⟩
  rw [hX] at hq
  rw [hX, hY]
  clear hX hY
  by_cases h : t.1 = textM
  · rw [decide_eq_true h] at hq
    rw [if_pos h]
    clear h
    go_enter Tryz.func53, Tryz.ntmps53
    go_wp2
    go_ret
    exact ⟨rfl, (Below.refl _ _).alloc (Nat.le_refl _) _⟩
  · rw [decide_eq_false h] at hq
    rw [if_neg h]
    clear h
    go_enter Tryz.func53, Tryz.ntmps53
    go_wp2
    go_ret
    exact ⟨rfl, (Below.refl _ _).alloc (Nat.le_refl _) _⟩
set_option maxRecDepth 100000 in
theorem gsname_any (w : World) : Calls Tryz.prog 214 #[.agg #[]] w fun e w' => e = .returned (.string (textQ quotedM)) ∧ Below w.heap.size w w' := by
  rw [show textQ quotedM = (⟨#[113, 117, 111, 116, 101, 100, 45, 112, 114, 105, 110, 116, 97, 98, 108, 101]⟩ : ByteArray) from rfl]
  go_enter Tryz.func214, Tryz.ntmps214
  go_wp2
  go_ret
  exact ⟨rfl, (Below.refl _ _).alloc (Nat.le_refl _) _⟩
set_option maxRecDepth 100000 in
theorem glname_any (w : World) : Calls Tryz.prog 216 #[.agg #[]] w fun e w' => e = .returned (.string (textQ base64M)) ∧ Below w.heap.size w w' := by
  rw [show textQ base64M = (⟨#[98, 97, 115, 101, 54, 52]⟩ : ByteArray) from rfl]
  go_enter Tryz.func216, Tryz.ntmps216
  go_wp2
  go_ret
  exact ⟨rfl, (Below.refl _ _).alloc (Nat.le_refl _) _⟩
set_option maxRecDepth 100000 in
theorem gstell_any (b : TextH) (m : Int) (w : World) (hs : b.length ≤ 1000000) (hm : w.cell? ⟨0, 0, none⟩ = some (.int .i64 m)) : Calls Tryz.prog 215 #[.agg #[], .string (textQ b)] w fun e w' => e = .returned (.string (textQ (encQ b))) ∧ Below w.heap.size w w' := by
  have b1 : Below w.heap.size w (w.alloc (.cells #[] 126)) := (Below.refl _ _).alloc (Nat.le_refl _) _
  have hq := q4enc_any (textQ b) m (w.alloc (.cells #[] 126)) hs ((b1.cell (p := ⟨0, 0, none⟩) (cell_ltP hm)).trans hm)
  rw [show (textQ b).data.toList = b from rfl, show (⟨(encQ b).toArray⟩ : ByteArray) = textQ (encQ b) from rfl] at hq
  obtain ⟨X, hX⟩ : ∃ X, textQ b = X := ⟨_, rfl⟩
  obtain ⟨Y, hY⟩ : ∃ X, textQ (encQ b) = X := ⟨_, rfl⟩
  rw [hX, hY] at hq
  rw [hX, hY]
  clear hX hY hs hm
  go_enter Tryz.func215, Tryz.ntmps215
  go_wp2_with fail
  refine hq.mono ?_
  rintro e w1 ⟨rfl, hb⟩
  have Fin := Lib.hid (b1.trans (hb.mono b1.size))
  clear hb hq
  go_wp2
  go_ret
  exact ⟨rfl, Fin.out⟩
set_option maxRecDepth 100000 in
theorem gltell_any (b : TextH) (w : World) (hs : b.length ≤ 1000000) : Calls Tryz.prog 217 #[.agg #[], .string (textQ b)] w fun e w' => e = .returned (.string (textQ (foldB (encB b)))) ∧ Below w.heap.size w w' := by
  have b1 : Below w.heap.size w (w.alloc (.cells #[] 127)) := (Below.refl _ _).alloc (Nat.le_refl _) _
  have hq := fold_any (textQ b) (w.alloc (.cells #[] 127)) hs
  rw [show (textQ b).data.toList = b from rfl, show (⟨(foldB (encB b)).toArray⟩ : ByteArray) = textQ (foldB (encB b)) from rfl] at hq
  obtain ⟨X, hX⟩ : ∃ X, textQ b = X := ⟨_, rfl⟩
  obtain ⟨Y, hY⟩ : ∃ X, textQ (foldB (encB b)) = X := ⟨_, rfl⟩
  rw [hX, hY] at hq
  rw [hX, hY]
  clear hX hY hs
  go_enter Tryz.func217, Tryz.ntmps217
  go_wp2_with fail
  refine hq.mono ?_
  rintro e w1 ⟨rfl, hb⟩
  have Fin := Lib.hid (b1.trans (hb.mono b1.size))
  clear hb hq
  go_wp2
  go_ret
  exact ⟨rfl, Fin.out⟩
end Go.Proofs.YtjikghndoklajaaGreatDoor
namespace Go.Proofs.YtjikghndoklajaaGreatDoor
open Go.RowKit

theorem method_stell (n : Nat) (U : World) : (Go.method (n + 1) 126 (.agg #[]) "mailguard/regen.tell").run Tryz.prog U = .ok (215, .agg #[]) U := by kernel_rfl
theorem method_ltell (n : Nat) (U : World) : (Go.method (n + 1) 127 (.agg #[]) "mailguard/regen.tell").run Tryz.prog U = .ok (217, .agg #[]) U := by kernel_rfl
end Go.Proofs.YtjikghndoklajaaGreatDoor
