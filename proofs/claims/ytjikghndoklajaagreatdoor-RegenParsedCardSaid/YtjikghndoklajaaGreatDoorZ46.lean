/-
  Texts of this proof, put together: RgM.
-/
import Derived.Test.YtjikghndoklajaaGreatDoorZ41
import Derived.Test.YtjikghndoklajaaGreatDoorZ43
namespace Go.Proofs.YtjikghndoklajaaGreatDoor
open Go.RowKit
attribute [local go_sem ↓] Go.wp_at_zero Go.wp_at_succ

theorem putD_block {w : World} {B k : Nat} (h : k ≠ B) (a b c d e f g : Value) : (putD w B a b c d e f g).heap[k]? = w.heap[k]? := by
  unfold putD
  exact (Below.heap_setCell _ ⟨B, 6, none⟩ g k h).trans ((Below.heap_setCell _ ⟨B, 5, none⟩ f k h).trans ((Below.heap_setCell _ ⟨B, 4, none⟩ e k h).trans ((Below.heap_setCell _ ⟨B, 3, none⟩ d k h).trans ((Below.heap_setCell _ ⟨B, 2, none⟩ c k h).trans ((Below.heap_setCell _ ⟨B, 1, none⟩ b k h).trans (Below.heap_setCell w ⟨B, 0, none⟩ a k h))))))
def LeafQ (w w2 : World) (X Y D : ByteArray) (CV : Value) (a1 : Option Addr) (n1 c1 : Nat) (a2 : Option Addr) (n2 c2 : Nat) (a3 : Option Addr) (n3 c3 : Nat) (l : List ParC) (e : Exit) (a : Act) (W : World) : Prop := match e with
  | .normal => ∃ N ua un uc, a = { tmps := #[.agg #[.slice a1 n1 c1, .string X, .string Y, .slice a2 n2 c2, .string D, .slice a3 n3 c3], .pointer (some ⟨w.heap.size, 0, none⟩), .pointer (some ⟨w.heap.size + 1, 0, none⟩), .int .i64 0, CV, .pointer (some ⟨N, 0, none⟩), .pointer (some ⟨w.heap.size, 4, none⟩), .string D, .int .i64 (D.size : Int), .bool false, undef, .pointer (some ⟨w.heap.size, 1, none⟩), .agg #[.string X, .string Y, .slice a2 n2 c2], CV, .pointer (some ⟨w.heap.size, 1, none⟩), .agg #[.string X, .string Y, .slice a2 n2 c2], .agg #[.string X, .string Y, .slice ua un uc], .pointer (some ⟨w.heap.size, 4, none⟩), .string D, .string D, .agg #[.slice none 0 0, .string X, .string Y, .slice ua un uc, .string D, .slice none 0 0], undef, undef, undef, undef, undef, undef, undef, undef, undef, undef, undef, undef, undef, undef, undef, undef, undef, undef], defers := [] } ∧ w2.heap.size ≤ N ∧ N < W.heap.size ∧ PrtAt W N (.slice none 0 0) (.string X) (.string Y) (.slice ua un uc) (.string D) (.slice none 0 0) ∧ Hid (ParsP W (fun g => w2.heap.size ≤ g ∧ g ≠ N) (.slice ua un uc) l) ∧ Below w2.heap.size w2 W
  | _ => False

set_option maxRecDepth 100000 in
set_option maxHeartbeats 8000000 in
theorem gleaf_any (B : Nat) (p : TreeM) (fv pv rv : Value) (w : World) (m : Int) (h : TreeAt w B p fv pv rv) (hB : B ≤ w.heap.size) (hs : SmallT 100000000 p.typ) (hlen : p.typ.2.2.length ≤ 1000000) (hr : rightC p.typ = true) (hsm : SmallF 90000 p.fields) (hl : p.fields.length ≤ 1000000) (hbd : p.body.length ≤ 16384) (hm : w.cell? ⟨0, 0, none⟩ = some (.int .i64 m))
    (hsf : SmallF 100000 (unfieldM p.fields ++ [(ctM, textC p.typ), (cteM, codR p.typ)])) (hraw : (rawR p.typ p.body).length ≤ 10000000) (hbig : (printH (unfieldM p.fields ++ [(ctM, textC p.typ), (cteM, codR p.typ)])).1.length ≤ 100000000) :
    Calls Tryz.prog 32 #[partV p fv pv rv] w fun e w' => Below w.heap.size w w' ∧
      ((headD (unfieldM p.fields ++ [(ctM, textC p.typ), (cteM, codR p.typ)]) p.typ p.body [] (rawR p.typ p.body)).2 = 0 → ∃ fv pv rv, e = .returned (.tuple #[laidV (headD (unfieldM p.fields ++ [(ctM, textC p.typ), (cteM, codR p.typ)]) p.typ p.body [] (rawR p.typ p.body)).1.1 fv pv rv (headD (unfieldM p.fields ++ [(ctM, textC p.typ), (cteM, codR p.typ)]) p.typ p.body [] (rawR p.typ p.body)).1.2, .int .i64 0]) ∧
        TreeP w' (fun g => w.heap.size ≤ g) (headD (unfieldM p.fields ++ [(ctM, textC p.typ), (cteM, codR p.typ)]) p.typ p.body [] (rawR p.typ p.body)).1.1 fv pv rv) ∧
      ((headD (unfieldM p.fields ++ [(ctM, textC p.typ), (cteM, codR p.typ)]) p.typ p.body [] (rawR p.typ p.body)).2 ≠ 0 → e = .returned (.tuple #[noneV, .int .i64 (headD (unfieldM p.fields ++ [(ctM, textC p.typ), (cteM, codR p.typ)]) p.typ p.body [] (rawR p.typ p.body)).2])) := by
  have hcp := fun W (hW : Below w.heap.size w W) => gcopyt_any B pv p.typ W (h.below hW hB).t (Nat.le_trans hB hW.size) hs hlen
  have HT := Lib.hid h
  obtain ⟨⟨a1, n1, c1, rfl⟩, ⟨a2, n2, c2, rfl⟩, ⟨a3, n3, c3, rfl⟩⟩ := h.slices
  have hco := fun W => gcodof_any p.typ (.slice a2 n2 c2) W ⟨a2, n2, c2, rfl⟩
  obtain ⟨CV, hCV⟩ : ∃ CV, codingV p.typ = CV := ⟨_, rfl⟩
  unfold partV
  unfold typeV at hcp hco
  obtain ⟨X, hX⟩ : ∃ X, textQ p.typ.1 = X := ⟨_, rfl⟩
  obtain ⟨Y, hY⟩ : ∃ X, textQ p.typ.2.1 = X := ⟨_, rfl⟩
  obtain ⟨D, hD⟩ : ∃ X, textQ p.body = X := ⟨_, rfl⟩
  have sD : D.size ≤ 16384 := by rw [← hD]; exact hbd
  have hdc : decide ((16384 : Int) < (D.size : Int)) = false := decide_eq_false (by omega)
  simp only [hX, hY] at hcp hco
  rw [hCV] at hco
  rw [hX, hY, hD]
  obtain ⟨w1, hw1⟩ : ∃ w1, (w.alloc (.cells #[.slice a1 n1 c1, .string X, .string Y, .slice a2 n2 c2, .string D, .slice a3 n3 c3] 29)).alloc (.cells #[.slice none 0 0, .string ⟨#[]⟩, .string ⟨#[]⟩, .slice none 0 0, .string ⟨#[]⟩, .slice none 0 0, .string ⟨#[]⟩] 43) = w1 := ⟨_, rfl⟩
  have b1 : Below w.heap.size w w1 := by rw [← hw1]; exact ((Below.refl _ _).alloc (Nat.le_refl _) _).alloc (by simp) _
  have z1 : w1.heap.size = w.heap.size + 2 := by rw [← hw1]; simp
  have p1 : PrtAt w1 w.heap.size (.slice a1 n1 c1) (.string X) (.string Y) (.slice a2 n2 c2) (.string D) (.slice a3 n3 c3) := by
    rw [← hw1]
    exact (prt_new w _ _ _ _ _ _).below ((Below.refl _ _).alloc (Nat.le_refl _) _)
  have l1 : LdAt w1 (w.heap.size + 1) (.slice none 0 0) (.string ⟨#[]⟩) (.string ⟨#[]⟩) (.slice none 0 0) (.string ⟨#[]⟩) (.slice none 0 0) (.string ⟨#[]⟩) := by
    rw [← hw1]
    have := ld_new (w.alloc (.cells #[.slice a1 n1 c1, .string X, .string Y, .slice a2 n2 c2, .string D, .slice a3 n3 c3] 29)) (.slice none 0 0) (.string ⟨#[]⟩) (.string ⟨#[]⟩) (.slice none 0 0) (.string ⟨#[]⟩) (.slice none 0 0) (.string ⟨#[]⟩)
    rw [World.size_alloc] at this
    exact this
  obtain ⟨y0, y1, y2, y3, y4, y5, _⟩ := p1.cells
  have hco1 := hco w1
  have K1 := Lib.hid (And.intro b1 (And.intro p1 l1))
  have Z1 := Lib.hid z1
  have HCV := Lib.hid hCV
  have HXY := Lib.hid (And.intro hX (And.intro hY hD))
  have Hcp := Lib.hid hcp
  have HM := Lib.hid hm
  have HBig := Lib.hid (And.intro hsf (And.intro hraw hbig))
  have HO := Lib.hid (And.intro hr (And.intro hsm (And.intro hl (And.intro hbd hB))))
  clear h hcp hco b1 p1 l1 z1 hCV hX hY hD hm hr hsm hl hbd hs hlen hsf hraw hbig
  go_enter Tryz.func32, Tryz.ntmps32
  go_wp2_with fail
  refine hco1.mono ?_
  rintro e w2 ⟨rfl, hb⟩
  have K2 := Lib.hid (And.intro (K1.out.1.trans (hb.mono K1.out.1.size)) (And.intro (K1.out.2.1.below hb) (And.intro (K1.out.2.2.below hb) (by have := Z1.out; have := hb.size; omega : w.heap.size + 2 ≤ w2.heap.size))))
  clear hco1 hb K1 y0 y1 y2 y3 y4 y5
  obtain ⟨y0, y1, y2, y3, y4, y5, _⟩ := K2.out.2.1.cells
  have hS : Hid (∀ W, Below w2.heap.size w2 W → W.cell? ⟨w.heap.size, 1, none⟩ = some (.string X) ∧ W.cell? ⟨w.heap.size, 2, none⟩ = some (.string Y) ∧ W.cell? ⟨w.heap.size, 3, none⟩ = some (.slice a2 n2 c2) ∧ W.cell? ⟨w.heap.size, 4, none⟩ = some (.string D) ∧ Below w2.heap.size w2 W) := Lib.hid fun W hW => by
    obtain ⟨_, q1, q2, q3, q4, _⟩ := (K2.out.2.1.below hW).cells
    exact ⟨q1, q2, q3, q4, hW⟩
  have HC : Hid (∀ W, (W.cell? ⟨w.heap.size, 1, none⟩ = some (.string X) ∧ W.cell? ⟨w.heap.size, 2, none⟩ = some (.string Y) ∧ W.cell? ⟨w.heap.size, 3, none⟩ = some (.slice a2 n2 c2) ∧ W.cell? ⟨w.heap.size, 4, none⟩ = some (.string D) ∧ Below w2.heap.size w2 W) → Calls Tryz.prog 54 #[.agg #[.string X, .string Y, .slice a2 n2 c2]] W fun e W' => ∃ ua un uc, e = .returned (.agg #[.string X, .string Y, .slice ua un uc]) ∧ (W'.cell? ⟨w.heap.size, 1, none⟩ = some (.string X) ∧ W'.cell? ⟨w.heap.size, 2, none⟩ = some (.string Y) ∧ W'.cell? ⟨w.heap.size, 3, none⟩ = some (.slice a2 n2 c2) ∧ W'.cell? ⟨w.heap.size, 4, none⟩ = some (.string D) ∧ Below w2.heap.size w2 W') ∧ Below W.heap.size W W' ∧ Hid (ParsP W' (fun g => W.heap.size ≤ g) (.slice ua un uc) p.typ.2.2)) := Lib.hid fun W hW =>
    (Hcp.out W (K2.out.1.trans (hW.2.2.2.2.mono K2.out.1.size))).mono fun e W' ⟨u, he, ho, hb⟩ => by
      obtain ⟨ua, uc, rfl⟩ := own_slice ho
      exact ⟨ua, _, uc, he, hS.out W' (hW.2.2.2.2.trans (hb.mono hW.2.2.2.2.size)), hb, Lib.hid ho.new⟩
  have HX : Hid (∀ W, (W.cell? ⟨w.heap.size, 1, none⟩ = some (.string X) ∧ W.cell? ⟨w.heap.size, 2, none⟩ = some (.string Y) ∧ W.cell? ⟨w.heap.size, 3, none⟩ = some (.slice a2 n2 c2) ∧ W.cell? ⟨w.heap.size, 4, none⟩ = some (.string D) ∧ Below w2.heap.size w2 W) → Calls Tryz.prog 20 #[.string D] W fun e W' => e = .returned (.string D) ∧ (W'.cell? ⟨w.heap.size, 1, none⟩ = some (.string X) ∧ W'.cell? ⟨w.heap.size, 2, none⟩ = some (.string Y) ∧ W'.cell? ⟨w.heap.size, 3, none⟩ = some (.slice a2 n2 c2) ∧ W'.cell? ⟨w.heap.size, 4, none⟩ = some (.string D) ∧ Below w2.heap.size w2 W') ∧ Below W.heap.size W W') := Lib.hid fun W hW => by
    refine (sclone_any D W (by omega)).mono ?_
    rintro e W' ⟨rfl, hb⟩
    exact ⟨rfl, hS.out _ (hW.2.2.2.2.trans (hb.mono hW.2.2.2.2.size)), hb⟩
  have hal : Hid (∀ W ob, (W.cell? ⟨w.heap.size, 1, none⟩ = some (.string X) ∧ W.cell? ⟨w.heap.size, 2, none⟩ = some (.string Y) ∧ W.cell? ⟨w.heap.size, 3, none⟩ = some (.slice a2 n2 c2) ∧ W.cell? ⟨w.heap.size, 4, none⟩ = some (.string D) ∧ Below w2.heap.size w2 W) → (W.alloc ob).cell? ⟨w.heap.size, 1, none⟩ = some (.string X) ∧ (W.alloc ob).cell? ⟨w.heap.size, 2, none⟩ = some (.string Y) ∧ (W.alloc ob).cell? ⟨w.heap.size, 3, none⟩ = some (.slice a2 n2 c2) ∧ (W.alloc ob).cell? ⟨w.heap.size, 4, none⟩ = some (.string D) ∧ Below w2.heap.size w2 (W.alloc ob)) := Lib.hid fun W ob hW => hS.out _ (hW.2.2.2.2.alloc hW.2.2.2.2.size ob)
  have hst : Hid (∀ W N ua un uc, w2.heap.size ≤ N → (W.cell? ⟨w.heap.size, 1, none⟩ = some (.string X) ∧ W.cell? ⟨w.heap.size, 2, none⟩ = some (.string Y) ∧ W.cell? ⟨w.heap.size, 3, none⟩ = some (.slice a2 n2 c2) ∧ W.cell? ⟨w.heap.size, 4, none⟩ = some (.string D) ∧ Below w2.heap.size w2 W) → (putP W N (.slice none 0 0) (.string X) (.string Y) (.slice ua un uc) (.string D) (.slice none 0 0)).cell? ⟨w.heap.size, 1, none⟩ = some (.string X) ∧ (putP W N (.slice none 0 0) (.string X) (.string Y) (.slice ua un uc) (.string D) (.slice none 0 0)).cell? ⟨w.heap.size, 2, none⟩ = some (.string Y) ∧ (putP W N (.slice none 0 0) (.string X) (.string Y) (.slice ua un uc) (.string D) (.slice none 0 0)).cell? ⟨w.heap.size, 3, none⟩ = some (.slice a2 n2 c2) ∧ (putP W N (.slice none 0 0) (.string X) (.string Y) (.slice ua un uc) (.string D) (.slice none 0 0)).cell? ⟨w.heap.size, 4, none⟩ = some (.string D) ∧ Below w2.heap.size w2 (putP W N (.slice none 0 0) (.string X) (.string Y) (.slice ua un uc) (.string D) (.slice none 0 0))) := Lib.hid fun W N ua un uc hN hW => hS.out _ (below_putP hW.2.2.2.2 hN (.slice none 0 0) (.string X) (.string Y) (.slice ua un uc) (.string D) (.slice none 0 0))
  have HU1 : Hid (∀ (W V U : World) ua un uc, w2.heap.size ≤ V.heap.size → Below V.heap.size V U → Hid (ParsP V (fun g => W.heap.size ≤ g) (.slice ua un uc) p.typ.2.2) → w2.heap.size ≤ W.heap.size → Hid (ParsP (U.alloc (.cells #[.slice none 0 0, .string X, .string Y, .slice ua un uc, .string D, .slice none 0 0] 29)) (fun g => w2.heap.size ≤ g ∧ g ≠ U.heap.size) (.slice ua un uc) p.typ.2.2)) := Lib.hid fun W V U ua un uc hV hU hu hW => Lib.hid (hu.out.to fun g hg hgl => ⟨⟨Nat.le_trans hW hg, by have := hU.size; omega⟩, fun j => ((hU.trans ((Below.refl _ _).alloc (Nat.le_refl _) _ |>.mono hU.size)).cell (p := ⟨g, j, none⟩) hgl)⟩)
  have HU2 : Hid (∀ (W V U : World) ua un uc ob, Below (V.alloc ob).heap.size (V.alloc ob) U → Hid (ParsP V (fun g => W.heap.size ≤ g) (.slice ua un uc) p.typ.2.2) → w2.heap.size ≤ W.heap.size → Hid (ParsP (putP U V.heap.size (.slice none 0 0) (.string X) (.string Y) (.slice ua un uc) (.string D) (.slice none 0 0)) (fun g => w2.heap.size ≤ g ∧ g ≠ V.heap.size) (.slice ua un uc) p.typ.2.2)) := Lib.hid fun W V U ua un uc ob hU hu hW => Lib.hid (hu.out.to fun g hg hgl => ⟨⟨Nat.le_trans hW hg, by omega⟩, fun j => (cell_block (putP_block (by omega) _ _ _ _ _ _)).trans ((((Below.refl V.heap.size V).alloc (Nat.le_refl _) ob).trans (hU.mono (by simp))).cell (p := ⟨g, j, none⟩) hgl)⟩)
  have HU3 : Hid (∀ (W V U : World) ua un uc, w2.heap.size + 1 ≤ W.heap.size → Below V.heap.size V U → Hid (ParsP V (fun g => W.heap.size ≤ g) (.slice ua un uc) p.typ.2.2) → Hid (ParsP (putP U w2.heap.size (.slice none 0 0) (.string X) (.string Y) (.slice ua un uc) (.string D) (.slice none 0 0)) (fun g => w2.heap.size ≤ g ∧ g ≠ w2.heap.size) (.slice ua un uc) p.typ.2.2)) := Lib.hid fun W V U ua un uc hW hU hu => Lib.hid (hu.out.to fun g hg hgl => ⟨⟨by omega, by omega⟩, fun j => (cell_block (putP_block (by omega) _ _ _ _ _ _)).trans (hU.cell (p := ⟨g, j, none⟩) hgl)⟩)
  have hS0 := Lib.hid (hS.out w2 (Below.refl _ _))
  have hS1 := Lib.hid (hS.out _ (Below.refl w2.heap.size w2).drew)
  have hS2 := Lib.hid (hS.out _ (((Below.refl w2.heap.size w2).alloc (Nat.le_refl _) (.cells #[.slice none 0 0, .string ⟨#[]⟩, .string ⟨#[]⟩, .slice none 0 0, .string ⟨#[]⟩, .slice none 0 0] 29)).drew).drew)
  have hS3 := Lib.hid (hS.out _ ((Below.refl w2.heap.size w2).alloc (Nat.le_refl _) (.cells #[.slice none 0 0, .string ⟨#[]⟩, .string ⟨#[]⟩, .slice none 0 0, .string ⟨#[]⟩, .slice none 0 0] 29)).drew)
  go_wp2_with fail
  refine Code.wp_mono (Q := LeafQ w w2 X Y D CV a1 n1 c1 a2 n2 c2 a3 n3 c3 p.typ.2.2) ?himp ?hreg
  case hreg =>
    clear hS Hcp HO HM HT
    refine wp_region_held_drew (S := (fun W => W.cell? ⟨w.heap.size, 1, none⟩ = some (.string X) ∧ W.cell? ⟨w.heap.size, 2, none⟩ = some (.string Y) ∧ W.cell? ⟨w.heap.size, 3, none⟩ = some (.slice a2 n2 c2) ∧ W.cell? ⟨w.heap.size, 4, none⟩ = some (.string D) ∧ Below w2.heap.size w2 W)) (by kernel_rfl) (by first | assumption | exact hS0.out | exact hS1.out) (fun hHeld => ?_)
    refine' wpAnyH_take (i := 0) (v := ?v0y) ?hi0y (by kernel_rfl) (by kernel_rfl) (by kernel_rfl) ?hq0y (Or.inl ⟨?hw0y, ?hy0y⟩) (by assumption) ?hr0y
    case hi0y => (simp only [List.getElem?_toArray, List.getElem?_cons_zero]; exact rfl)
    case hq0y => exact fun _ _ _ h => h
    case hw0y => rfl
    case hy0y =>
      intro wz hz
      (try dsimp only at hz)
      go_simp
      all_goals with_reducible rfl
    try simp only [Act.put, List.setIfInBounds_toArray, List.set_cons_zero, List.set_cons_succ]
    refine' wpAnyH_take (i := 1) (v := ?v1y) ?hi1y (by kernel_rfl) (by kernel_rfl) (by kernel_rfl) ?hq1y (Or.inl ⟨?hw1y, ?hy1y⟩) (by assumption) ?hr1y
    case hi1y => (simp only [List.getElem?_toArray, List.getElem?_cons_zero, List.getElem?_cons_succ]; exact rfl)
    case hq1y => exact fun _ _ _ h => h
    case hw1y => rfl
    case hy1y =>
      intro wz hz
      (try dsimp only at hz)
      go_simp
      all_goals with_reducible rfl
    try simp only [Act.put, List.setIfInBounds_toArray, List.set_cons_zero, List.set_cons_succ]
    refine' wpAnyH_take (i := 3) (v := ?v3y) ?hi3y (by kernel_rfl) (by kernel_rfl) (by kernel_rfl) ?hq3y (Or.inl ⟨?hw3y, ?hy3y⟩) (by assumption) ?hr3y
    case hi3y => (simp only [List.getElem?_toArray, List.getElem?_cons_zero, List.getElem?_cons_succ]; exact rfl)
    case hq3y => exact fun _ _ _ h => h
    case hw3y => rfl
    case hy3y =>
      intro wz hz
      (try dsimp only at hz)
      go_simp
      all_goals with_reducible rfl
    try simp only [Act.put, List.setIfInBounds_toArray, List.set_cons_zero, List.set_cons_succ]
    refine' wpAnyH_take (i := 4) (v := ?v4y) ?hi4y (by kernel_rfl) (by kernel_rfl) (by kernel_rfl) ?hq4y (Or.inl ⟨?hw4y, ?hy4y⟩) (by assumption) ?hr4y
    case hi4y => (simp only [List.getElem?_toArray, List.getElem?_cons_zero, List.getElem?_cons_succ]; exact rfl)
    case hq4y => exact fun _ _ _ h => h
    case hw4y => rfl
    case hy4y =>
      intro wz hz
      (try dsimp only at hz)
      go_simp
      all_goals with_reducible rfl
    try simp only [Act.put, List.setIfInBounds_toArray, List.set_cons_zero, List.set_cons_succ]
    refine wpAnyH_ready (rs := [2, 7]) (by kernel_rfl) (by simp) ?_
    refine AllReadyH.cons (o := ?hoA) ?hioA (fun KA hKA => ?hsA) ?hmA
    case hioA => (simp only [List.getElem?_toArray, List.getElem?_cons_zero, List.getElem?_cons_succ]; exact rfl)
    case hsA =>
      go_simp
      go_at_call 54
      with_reducible refine (HC.out _ ?_).mono ?_
      · assumption
      rintro e w3 ⟨ua, un, uc, rfl, hSA, hbA, huA⟩
      refine hKA.out _ _ hSA (fun hHeldA => ?_)
      try simp only [Act.put, List.setIfInBounds_toArray, List.set_cons_zero, List.set_cons_succ]
      refine wpAnyH_ready (rs := [5, 7]) (by kernel_rfl) (by simp) ?_
      refine AllReadyH.cons (o := ?hoB) ?hioB (fun KB hKB => ?hsB) ?hmB
      case hioB => (simp only [List.getElem?_toArray, List.getElem?_cons_zero, List.getElem?_cons_succ]; exact rfl)
      case hsB =>
        go_simp
        go_at_call 20
        with_reducible refine (HX.out _ ?_).mono ?_
        · assumption
        rintro e w4 ⟨rfl, hSB, hbB⟩
        refine hKB.out _ _ hSB (fun hHeldB => ?_)
        try simp only [Act.put, List.setIfInBounds_toArray, List.set_cons_zero, List.set_cons_succ]
        refine' wpAnyH_take (i := 6) (v := ?v6B) ?hi6B (by kernel_rfl) (by kernel_rfl) (by kernel_rfl) ?hq6B (Or.inl ⟨?hw6B, ?hy6B⟩) (by assumption) ?hr6B
        case hi6B => (simp only [List.getElem?_toArray, List.getElem?_cons_zero, List.getElem?_cons_succ]; exact rfl)
        case hq6B => exact fun _ _ _ h => h
        case hw6B => rfl
        case hy6B =>
          intro wz hz
          (try dsimp only at hz)
          go_simp
          all_goals with_reducible rfl
        try simp only [Act.put, List.setIfInBounds_toArray, List.set_cons_zero, List.set_cons_succ]
        refine wpAnyH_ready (rs := [7]) (by kernel_rfl) (by simp) ?_
        refine AllReadyH.cons (o := ?hoC) ?hioC (fun KC hKC => ?hsC) AllReadyH.nil
        case hioC => (simp only [List.getElem?_toArray, List.getElem?_cons_zero, List.getElem?_cons_succ]; exact rfl)
        case hsC =>
          go_simp
          refine hKC.out _ _ (hal.out _ _ hSB) (fun hHeldC => ?_)
          try simp only [Act.put, List.setIfInBounds_toArray, List.set_cons_zero, List.set_cons_succ]
          refine wpAnyH_ready (rs := [8]) (by kernel_rfl) (by simp) ?_
          refine AllReadyH.cons (o := ?hoD) ?hioD (fun KD hKD => ?hsD) AllReadyH.nil
          case hioD => (simp only [List.getElem?_toArray, List.getElem?_cons_zero, List.getElem?_cons_succ]; exact rfl)
          case hsD =>
            go_simp
            refine hKD.out _ _ (hal.out _ _ hSB) (fun hHeldD => ?_)
            try simp only [Act.put, List.setIfInBounds_toArray, List.set_cons_zero, List.set_cons_succ]
            refine wpAnyH_done (by kernel_rfl) ?_ _
            exact ⟨w4.heap.size, ua, un, uc, rfl, hSB.2.2.2.2.size, by simp, prt_new w4 _ _ _ _ _ _, HU1.out _ w3 w4 ua un uc hSA.2.2.2.2.size hbB huA (by first | exact Nat.le_refl _ | assumption), hSB.2.2.2.2.alloc hSB.2.2.2.2.size _⟩
      case hmB =>
        refine AllReadyH.cons (o := ?hoE) ?hioE (fun KE hKE => ?hsE) AllReadyH.nil
        case hioE => (simp only [List.getElem?_toArray, List.getElem?_cons_zero, List.getElem?_cons_succ]; exact rfl)
        case hsE =>
          go_simp
          refine hKE.out _ _ (hal.out _ _ hSA) (fun hHeldE => ?_)
          try simp only [Act.put, List.setIfInBounds_toArray, List.set_cons_zero, List.set_cons_succ]
          refine wpAnyH_ready (rs := [5]) (by kernel_rfl) (by simp) ?_
          refine AllReadyH.cons (o := ?hoF) ?hioF (fun KF hKF => ?hsF) AllReadyH.nil
          case hioF => (simp only [List.getElem?_toArray, List.getElem?_cons_zero, List.getElem?_cons_succ]; exact rfl)
          case hsF =>
            go_simp
            go_at_call 20
            with_reducible refine (HX.out _ ?_).mono ?_
            · assumption
            rintro e w4 ⟨rfl, hSF, hbF⟩
            have nF := (prt_new w3 (.slice none 0 0) (.string ⟨#[]⟩) (.string ⟨#[]⟩) (.slice none 0 0) (.string ⟨#[]⟩) (.slice none 0 0)).below hbF
            obtain ⟨x0, x1, x2, x3, x4, x5, f0, f1, f2, f3, f4, f5⟩ := nF.cells
            refine hKF.out _ _ hSF (fun hHeldF => ?_)
            try simp only [Act.put, List.setIfInBounds_toArray, List.set_cons_zero, List.set_cons_succ]
            refine' wpAnyH_take (i := 6) (v := ?v6F) ?hi6F (by kernel_rfl) (by kernel_rfl) (by kernel_rfl) ?hq6F (Or.inl ⟨?hw6F, ?hy6F⟩) (by assumption) ?hr6F
            case hi6F => (simp only [List.getElem?_toArray, List.getElem?_cons_zero, List.getElem?_cons_succ]; exact rfl)
            case hq6F => exact fun _ _ _ h => h
            case hw6F => rfl
            case hy6F =>
              intro wz hz
              (try dsimp only at hz)
              go_simp
              all_goals with_reducible rfl
            try simp only [Act.put, List.setIfInBounds_toArray, List.set_cons_zero, List.set_cons_succ]
            refine wpAnyH_ready (rs := [8]) (by kernel_rfl) (by simp) ?_
            refine AllReadyH.cons (o := ?hoG) ?hioG (fun KG hKG => ?hsG) AllReadyH.nil
            case hioG => (simp only [List.getElem?_toArray, List.getElem?_cons_zero, List.getElem?_cons_succ]; exact rfl)
            case hsG =>
              go_simp
              refine hKG.out _ _ (hst.out _ w3.heap.size ua un uc hSA.2.2.2.2.size hSF) (fun hHeldG => ?_)
              try simp only [Act.put, List.setIfInBounds_toArray, List.set_cons_zero, List.set_cons_succ]
              refine wpAnyH_done (by kernel_rfl) ?_ _
              exact ⟨w3.heap.size, ua, un, uc, rfl, hSA.2.2.2.2.size, (nF.put (.slice none 0 0) (.string X) (.string Y) (.slice ua un uc) (.string D) (.slice none 0 0)).lt, nF.put (.slice none 0 0) (.string X) (.string Y) (.slice ua un uc) (.string D) (.slice none 0 0), HU2.out _ w3 w4 ua un uc _ hbF huA (by first | exact Nat.le_refl _ | assumption), (hst.out _ w3.heap.size ua un uc hSA.2.2.2.2.size hSF).2.2.2.2⟩
    case hmA =>
      refine AllReadyH.cons (o := ?hoH) ?hioH (fun KH hKH => ?hsH) AllReadyH.nil
      case hioH => (simp only [List.getElem?_toArray, List.getElem?_cons_zero, List.getElem?_cons_succ]; exact rfl)
      case hsH =>
        go_simp
        refine hKH.out _ _ (by first | exact hS2.out | exact hS3.out | exact hal.out _ _ (by assumption)) (fun hHeldH => ?_)
        try simp only [Act.put, List.setIfInBounds_toArray, List.set_cons_zero, List.set_cons_succ]
        refine wpAnyH_ready (rs := [2]) (by kernel_rfl) (by simp) ?_
        refine AllReadyH.cons (o := ?hoI) ?hioI (fun KI hKI => ?hsI) AllReadyH.nil
        case hioI => (simp only [List.getElem?_toArray, List.getElem?_cons_zero, List.getElem?_cons_succ]; exact rfl)
        case hsI =>
          go_simp
          go_at_call 54
          with_reducible refine (HC.out _ ?_).mono ?_
          · assumption
          rintro e w3 ⟨ua, un, uc, rfl, hSI, hbI, huI⟩
          have nI : PrtAt w3 w2.heap.size (.slice none 0 0) (.string ⟨#[]⟩) (.string ⟨#[]⟩) (.slice none 0 0) (.string ⟨#[]⟩) (.slice none 0 0) := (by first | exact (prt_new w2 (.slice none 0 0) (.string ⟨#[]⟩) (.string ⟨#[]⟩) (.slice none 0 0) (.string ⟨#[]⟩) (.slice none 0 0)).below hbI | exact (prt_new w2.drew (.slice none 0 0) (.string ⟨#[]⟩) (.string ⟨#[]⟩) (.slice none 0 0) (.string ⟨#[]⟩) (.slice none 0 0)).below hbI)
          refine hKI.out _ _ hSI (fun hHeldI => ?_)
          try simp only [Act.put, List.setIfInBounds_toArray, List.set_cons_zero, List.set_cons_succ]
          refine wpAnyH_ready (rs := [5]) (by kernel_rfl) (by simp) ?_
          refine AllReadyH.cons (o := ?hoJ) ?hioJ (fun KJ hKJ => ?hsJ) AllReadyH.nil
          case hioJ => (simp only [List.getElem?_toArray, List.getElem?_cons_zero, List.getElem?_cons_succ]; exact rfl)
          case hsJ =>
            go_simp
            go_at_call 20
            with_reducible refine (HX.out _ ?_).mono ?_
            · assumption
            rintro e w4 ⟨rfl, hSJ, hbJ⟩
            have nJ := nI.below hbJ
            obtain ⟨x0, x1, x2, x3, x4, x5, f0, f1, f2, f3, f4, f5⟩ := nJ.cells
            refine hKJ.out _ _ hSJ (fun hHeldJ => ?_)
            try simp only [Act.put, List.setIfInBounds_toArray, List.set_cons_zero, List.set_cons_succ]
            refine' wpAnyH_take (i := 6) (v := ?v6J) ?hi6J (by kernel_rfl) (by kernel_rfl) (by kernel_rfl) ?hq6J (Or.inl ⟨?hw6J, ?hy6J⟩) (by assumption) ?hr6J
            case hi6J => (simp only [List.getElem?_toArray, List.getElem?_cons_zero, List.getElem?_cons_succ]; exact rfl)
            case hq6J => exact fun _ _ _ h => h
            case hw6J => rfl
            case hy6J =>
              intro wz hz
              (try dsimp only at hz)
              go_simp
              all_goals with_reducible rfl
            try simp only [Act.put, List.setIfInBounds_toArray, List.set_cons_zero, List.set_cons_succ]
            refine wpAnyH_ready (rs := [8]) (by kernel_rfl) (by simp) ?_
            refine AllReadyH.cons (o := ?hoL) ?hioL (fun KL hKL => ?hsL) AllReadyH.nil
            case hioL => (simp only [List.getElem?_toArray, List.getElem?_cons_zero, List.getElem?_cons_succ]; exact rfl)
            case hsL =>
              go_simp
              refine hKL.out _ _ (hst.out _ w2.heap.size ua un uc (Nat.le_refl _) hSJ) (fun hHeldL => ?_)
              try simp only [Act.put, List.setIfInBounds_toArray, List.set_cons_zero, List.set_cons_succ]
              refine wpAnyH_done (by kernel_rfl) ?_ _
              exact ⟨w2.heap.size, ua, un, uc, rfl, Nat.le_refl _, (nJ.put (.slice none 0 0) (.string X) (.string Y) (.slice ua un uc) (.string D) (.slice none 0 0)).lt, nJ.put (.slice none 0 0) (.string X) (.string Y) (.slice ua un uc) (.string D) (.slice none 0 0), HU3.out _ w3 w4 ua un uc (by simp) hbJ huI, (hst.out _ w2.heap.size ua un uc (Nat.le_refl _) hSJ).2.2.2.2⟩
  case himp =>
    intro e a W hQ
    cases e with
    | normal =>
      obtain ⟨N, ua, un, uc, rfl, hN, hNs, hty, hu, hbW⟩ := hQ
      have K3 := Lib.hid (And.intro (K2.out.1.trans (hbW.mono K2.out.1.size)) (And.intro (K2.out.2.1.below hbW) (And.intro (K2.out.2.2.1.below hbW) (And.intro hty (And.intro (hu.out.to (Q := fun g => w2.heap.size ≤ g ∧ g ≠ N ∧ g < W.heap.size) (stay_self fun g hg hgl => ⟨hg.1, hg.2, hgl⟩)) (by have := K2.out.2.2.2; omega : w.heap.size + 2 ≤ N))))))
      have HN := Lib.hid (And.intro hN hNs)
      have K2z := Lib.hid K2.out.2.2.2
      have htp := gtyped_any W.heap.size p (.slice a1 n1 c1) (.slice a2 n2 c2) (.slice a3 n3 c3) p.typ (.slice ua un uc) W ((HT.out.below K3.out.1 HO.out.2.2.2.2).up (Nat.le_trans HO.out.2.2.2.2 K3.out.1.size)) (Nat.le_refl _) hu.out.at HO.out.1 (fun x hx => by have := HO.out.2.1 x hx; omega) HO.out.2.2.1
      unfold partV typeV at htp
      rw [HXY.out.1, HXY.out.2.1, HXY.out.2.2] at htp
      clear hS HC HX hal hst HU1 HU2 HU3 hS0 hS1 hS2 hS3 Hcp hN hNs hty hu hbW K2 y0 y1 y2 y3 y4 y5
      obtain ⟨y0, y1, y2, y3, y4, y5, _⟩ := K3.out.2.1.cells
      obtain ⟨x0, x1, x2, x3, x4, x5, f0, f1, f2, f3, f4, f5⟩ := K3.out.2.2.2.1.cells
      dsimp only
      go_wp2_with fail
      --@A
      refine htp.mono ?_
      rintro e w3 ⟨v, rfl, hv, hb⟩
      obtain ⟨va, vc, rfl⟩ := row_slice hv
      obtain ⟨fn, hfn⟩ : ∃ fn, (unfieldM p.fields ++ [(ctM, textC p.typ)]).length = fn := ⟨_, rfl⟩
      have Hfn := Lib.hid hfn
      rw [hfn] at hv ⊢
      have K4 := Lib.hid (And.intro (K3.out.1.trans (hb.mono K3.out.1.size)) (And.intro (K3.out.2.2.1.below hb) (And.intro (K3.out.2.2.2.1.below hb) (And.intro (K3.out.2.2.2.2.1.to (stay_all hb)) hv))))
      have hz3 : W.heap.size ≤ w3.heap.size := hb.size
      clear htp hb hv hfn y0 y1 y2 y3 y4 y5 x0 x1 x2 x3 x4 x5 f0 f1 f2 f3 f4 f5
      obtain ⟨x0, x1, x2, x3, x4, x5, f0, f1, f2, f3, f4, f5⟩ := K4.out.2.2.1.cells
      by_cases htx : p.typ.1 = textM
      · have hcv : CV = .iface 126 (.agg #[]) := by rw [← HCV.out]; unfold codingV; rw [if_pos htx]
        subst hcv
        have hnm := gsname_any w3
        go_wp2_with fail
        --@B
        refine hnm.mono ?_
        rintro e w4 ⟨rfl, hb⟩
        obtain ⟨T, hT⟩ : ∃ T, textQ quotedM = T := ⟨_, rfl⟩
        rw [hT]
        have HTc := Lib.hid (show textQ (codR p.typ) = T by unfold codR; rw [if_pos htx]; exact hT)
        have K5 := Lib.hid (And.intro (K4.out.1.trans (hb.mono K4.out.1.size)) (And.intro (K4.out.2.1.below hb) (And.intro (K4.out.2.2.1.below hb) (And.intro (K4.out.2.2.2.1.to (stay_all hb)) (ownsRow_below4 K4.out.2.2.2.2 hb)))))
        have hz4 : W.heap.size ≤ w4.heap.size := Nat.le_trans hz3 hb.size
        clear hnm hb hT K4 hz3 x0 x1 x2 x3 x4 x5 f0 f1 f2 f3 f4 f5
        obtain ⟨x0, x1, x2, x3, x4, x5, f0, f1, f2, f3, f4, f5⟩ := K5.out.2.2.1.cells
        go_wp2_with (at_builtin; refine HeldW.of ?_)
        unfold HeldW
        --@C
        have b45 : Below w4.heap.size w4 (w4.alloc (.cells #[.string ⟨#[67, 111, 110, 116, 101, 110, 116, 45, 84, 114, 97, 110, 115, 102, 101, 114, 45, 69, 110, 99, 111, 100, 105, 110, 103]⟩, .string T] 38)) := (Below.refl _ _).alloc (Nat.le_refl _) _
        have q5 := heap_alloc_new w4 (.cells #[.string ⟨#[67, 111, 110, 116, 101, 110, 116, 45, 84, 114, 97, 110, 115, 102, 101, 114, 45, 69, 110, 99, 111, 100, 105, 110, 103]⟩, .string T] 38)
        have o5 : FieldsOwn (w4.alloc (.cells #[.string ⟨#[67, 111, 110, 116, 101, 110, 116, 45, 84, 114, 97, 110, 115, 102, 101, 114, 45, 69, 110, 99, 111, 100, 105, 110, 103]⟩, .string T] 38)) W.heap.size (.slice va fn vc) (unfieldM p.fields ++ [(ctM, textC p.typ)]) := ownsRow_below4 K5.out.2.2.2.2 b45
        have hal : (unfieldM p.fields ++ [(ctM, textC p.typ)]).length ≤ 10000000 := by
          have := unfield_len p.fields
          have := HO.out.2.2.1
          simp only [List.length_append, List.length_cons, List.length_nil]
          omega
        refine wpList_append_field rfl _ _ rfl W.heap.size (.slice va fn vc) (unfieldM p.fields ++ [(ctM, textC p.typ)]) (cteM, codR p.typ) rfl o5 (Nat.le_trans hz4 b45.size) hal w4.heap.size 1 rfl (Lib.cell_of_heap q5 0) (by rw [HTc.out]; exact Lib.cell_of_heap q5 1) ?_
        intro v' w5 ho hg
        obtain ⟨va', vc', rfl⟩ := row_slice ho
        have own (q : Nat) (e : (Value.slice va fn vc).ownBlock = some q) : W.heap.size ≤ q := (row_block o5 e).1
        have Pn := prt_grown o5 (K5.out.2.2.1.below b45) HN.out.2 hg
        have hsz45 := b45.size
        have L5 := K5.out.2.1.below b45
        have hNW := HN.out.2
        have hwN := K3.out.2.2.2.2.2
        have L6 : LdAt w5 (w.heap.size + 1) (.slice none 0 0) (.string ⟨#[]⟩) (.string ⟨#[]⟩) (.slice none 0 0) (.string ⟨#[]⟩) (.slice none 0 0) (.string ⟨#[]⟩) := (hg.block _ L5.lt (fun e => by have := own _ e.symm; omega)).trans L5
        have B5 := (K5.out.1.trans (b45.mono K5.out.1.size)).grown hg (by have := K5.out.1.size; omega) (fun q hq => by have := own q hq; have := K3.out.1.size; omega)
        have P5 : ParsP w5 (fun g => w2.heap.size ≤ g ∧ g ≠ N ∧ g < W.heap.size) (.slice ua un uc) p.typ.2.2 := (K5.out.2.2.2.1.to (stay_all b45)).to fun g hg2 hgl => ⟨hg2, fun j => cell_block (hg.block g hgl (fun e => by have := own _ e.symm; have := hg2.2.2; omega))⟩
        --@D
        have e2 : unfieldM p.fields ++ [(ctM, textC p.typ)] ++ [(cteM, codR p.typ)] = unfieldM p.fields ++ [(ctM, textC p.typ), (cteM, codR p.typ)] := by simp
        have F5 := ho.new
        rw [e2] at F5 ⊢
        obtain ⟨q, hq⟩ : ∃ q, (unfieldM p.fields ++ [(ctM, textC p.typ), (cteM, codR p.typ)]).length = q := ⟨_, rfl⟩
        rw [hq] at F5 ⊢
        obtain ⟨w6, hw6⟩ : ∃ w6, w5.setCell ⟨N, 0, none⟩ (.slice va' q vc') = w6 := ⟨_, rfl⟩
        have N6 : PrtAt w6 N (.slice va' q vc') (.string X) (.string Y) (.slice ua un uc) (.string D) (.slice none 0 0) := by rw [← hw6]; exact Pn.fields _
        have B6 : Below w.heap.size w w6 := by rw [← hw6]; exact B5.setCell (p := ⟨N, 0, none⟩) (by show w.heap.size ≤ N; omega) _
        have L7 : LdAt w6 (w.heap.size + 1) (.slice none 0 0) (.string ⟨#[]⟩) (.string ⟨#[]⟩) (.slice none 0 0) (.string ⟨#[]⟩) (.slice none 0 0) (.string ⟨#[]⟩) := by rw [← hw6]; exact (Below.heap_setCell w5 ⟨N, 0, none⟩ _ (w.heap.size + 1) (by show w.heap.size + 1 ≠ N; omega)).trans L6
        have P6 : ParsP w6 (fun g => w2.heap.size ≤ g ∧ g ≠ N ∧ g < W.heap.size) (.slice ua un uc) p.typ.2.2 := by rw [← hw6]; exact P5.to (stay_set (fun g h => h.2.1) _)
        have F6 : FieldsP w6 (fun g => W.heap.size ≤ g) (.slice va' q vc') (unfieldM p.fields ++ [(ctM, textC p.typ), (cteM, codR p.typ)]) := by rw [← hw6]; exact F5.to (stay_set (fun g h => by have : W.heap.size ≤ g := h; omega) _)
        have K7 := Lib.hid (And.intro B6 (And.intro N6 (And.intro L7 (And.intro P6 F6))))
        obtain ⟨x0, x1, x2, x3, x4, x5, f0, f1, f2, f3, f4, f5⟩ := Pn.cells
        clear b45 q5 o5 hal ho hg own Pn hsz45 L5 hNW hwN L6 B5 P5 e2 F5 hq N6 B6 L7 P6 F6 K5 hz4
        go_wp2_with fail
        --@E
        clear hw6 x0 x1 x2 x3 x4 x5 f0 f1 f2 f3 f4 f5
        have hS6 : Hid (∀ U, Hid (Below w.heap.size w U ∧ PrtAt U N (.slice va' q vc') (.string X) (.string Y) (.slice ua un uc) (.string D) (.slice none 0 0) ∧ ParsP U (fun g => w2.heap.size ≤ g ∧ g ≠ N ∧ g < W.heap.size) (.slice ua un uc) p.typ.2.2 ∧ FieldsP U (fun g => W.heap.size ≤ g) (.slice va' q vc') (unfieldM p.fields ++ [(ctM, textC p.typ), (cteM, codR p.typ)])) → U.cell? ⟨N, 0, none⟩ = some (.slice va' q vc') ∧ U.cell? ⟨N, 1, none⟩ = some (.string X) ∧ U.cell? ⟨N, 2, none⟩ = some (.string Y) ∧ U.cell? ⟨N, 3, none⟩ = some (.slice ua un uc) ∧ U.cell? ⟨N, 4, none⟩ = some (.string D) ∧ U.cell? ⟨N, 5, none⟩ = some (.slice none 0 0) ∧ Hid (Below w.heap.size w U ∧ PrtAt U N (.slice va' q vc') (.string X) (.string Y) (.slice ua un uc) (.string D) (.slice none 0 0) ∧ ParsP U (fun g => w2.heap.size ≤ g ∧ g ≠ N ∧ g < W.heap.size) (.slice ua un uc) p.typ.2.2 ∧ FieldsP U (fun g => W.heap.size ≤ g) (.slice va' q vc') (unfieldM p.fields ++ [(ctM, textC p.typ), (cteM, codR p.typ)]))) := Lib.hid fun U hU => by
          obtain ⟨k0, k1, k2, k3, k4, k5, _⟩ := hU.out.2.1.cells
          exact ⟨k0, k1, k2, k3, k4, k5, hU⟩
        have hB6 : Hid (∀ U U', Hid (Below w.heap.size w U ∧ PrtAt U N (.slice va' q vc') (.string X) (.string Y) (.slice ua un uc) (.string D) (.slice none 0 0) ∧ ParsP U (fun g => w2.heap.size ≤ g ∧ g ≠ N ∧ g < W.heap.size) (.slice ua un uc) p.typ.2.2 ∧ FieldsP U (fun g => W.heap.size ≤ g) (.slice va' q vc') (unfieldM p.fields ++ [(ctM, textC p.typ), (cteM, codR p.typ)])) → Below U.heap.size U U' → Hid (Below w.heap.size w U' ∧ PrtAt U' N (.slice va' q vc') (.string X) (.string Y) (.slice ua un uc) (.string D) (.slice none 0 0) ∧ ParsP U' (fun g => w2.heap.size ≤ g ∧ g ≠ N ∧ g < W.heap.size) (.slice ua un uc) p.typ.2.2 ∧ FieldsP U' (fun g => W.heap.size ≤ g) (.slice va' q vc') (unfieldM p.fields ++ [(ctM, textC p.typ), (cteM, codR p.typ)]))) := Lib.hid fun U U' h hb => Lib.hid ⟨h.out.1.trans (hb.mono h.out.1.size), h.out.2.1.below hb, h.out.2.2.1.to (stay_all hb), h.out.2.2.2.to (stay_all hb)⟩
        have hst6 : Hid (∀ U a b c d e f g, Hid (Below w.heap.size w U ∧ PrtAt U N (.slice va' q vc') (.string X) (.string Y) (.slice ua un uc) (.string D) (.slice none 0 0) ∧ ParsP U (fun g => w2.heap.size ≤ g ∧ g ≠ N ∧ g < W.heap.size) (.slice ua un uc) p.typ.2.2 ∧ FieldsP U (fun g => W.heap.size ≤ g) (.slice va' q vc') (unfieldM p.fields ++ [(ctM, textC p.typ), (cteM, codR p.typ)])) → Hid (Below w.heap.size w (putD U (w.heap.size + 1) a b c d e f g) ∧ PrtAt (putD U (w.heap.size + 1) a b c d e f g) N (.slice va' q vc') (.string X) (.string Y) (.slice ua un uc) (.string D) (.slice none 0 0) ∧ ParsP (putD U (w.heap.size + 1) a b c d e f g) (fun g => w2.heap.size ≤ g ∧ g ≠ N ∧ g < W.heap.size) (.slice ua un uc) p.typ.2.2 ∧ FieldsP (putD U (w.heap.size + 1) a b c d e f g) (fun g => W.heap.size ≤ g) (.slice va' q vc') (unfieldM p.fields ++ [(ctM, textC p.typ), (cteM, codR p.typ)]))) := Lib.hid fun U a b c d e f g h => Lib.hid (by
          have hwN := K3.out.2.2.2.2.2
          have hwW := HN.out
          exact ⟨below_putD h.out.1 (by omega) a b c d e f g, (putD_block (by omega) a b c d e f g).trans h.out.2.1, h.out.2.2.1.to (fun k hk _ => ⟨hk, fun _ => cell_block (putD_block (by have := hk.1; have := K2z.out; omega) a b c d e f g)⟩), h.out.2.2.2.to (fun k hk _ => ⟨hk, fun _ => cell_block (putD_block (by have hk' : W.heap.size ≤ k := hk; omega) a b c d e f g)⟩)⟩)
        obtain ⟨RR, hRR⟩ : ∃ RR, textQ (rawR p.typ p.body) = RR := ⟨_, rfl⟩
        have HTl : Hid (∀ U, (U.cell? ⟨N, 0, none⟩ = some (.slice va' q vc') ∧ U.cell? ⟨N, 1, none⟩ = some (.string X) ∧ U.cell? ⟨N, 2, none⟩ = some (.string Y) ∧ U.cell? ⟨N, 3, none⟩ = some (.slice ua un uc) ∧ U.cell? ⟨N, 4, none⟩ = some (.string D) ∧ U.cell? ⟨N, 5, none⟩ = some (.slice none 0 0) ∧ Hid (Below w.heap.size w U ∧ PrtAt U N (.slice va' q vc') (.string X) (.string Y) (.slice ua un uc) (.string D) (.slice none 0 0) ∧ ParsP U (fun g => w2.heap.size ≤ g ∧ g ≠ N ∧ g < W.heap.size) (.slice ua un uc) p.typ.2.2 ∧ FieldsP U (fun g => W.heap.size ≤ g) (.slice va' q vc') (unfieldM p.fields ++ [(ctM, textC p.typ), (cteM, codR p.typ)]))) → Calls Tryz.prog 215 #[.agg #[], .string D] U fun e U' => e = .returned (.string RR) ∧ (U'.cell? ⟨N, 0, none⟩ = some (.slice va' q vc') ∧ U'.cell? ⟨N, 1, none⟩ = some (.string X) ∧ U'.cell? ⟨N, 2, none⟩ = some (.string Y) ∧ U'.cell? ⟨N, 3, none⟩ = some (.slice ua un uc) ∧ U'.cell? ⟨N, 4, none⟩ = some (.string D) ∧ U'.cell? ⟨N, 5, none⟩ = some (.slice none 0 0) ∧ Hid (Below w.heap.size w U' ∧ PrtAt U' N (.slice va' q vc') (.string X) (.string Y) (.slice ua un uc) (.string D) (.slice none 0 0) ∧ ParsP U' (fun g => w2.heap.size ≤ g ∧ g ≠ N ∧ g < W.heap.size) (.slice ua un uc) p.typ.2.2 ∧ FieldsP U' (fun g => W.heap.size ≤ g) (.slice va' q vc') (unfieldM p.fields ++ [(ctM, textC p.typ), (cteM, codR p.typ)]))) ∧ Below U.heap.size U U') := Lib.hid fun U hU => by
          have h1 := gstell_any p.body m U (by have := HO.out.2.2.2.1; omega) ((hU.2.2.2.2.2.2.out.1.cell (p := ⟨0, 0, none⟩) (cell_ltP HM.out)).trans HM.out)
          rw [HXY.out.2.2, show encQ p.body = rawR p.typ p.body by unfold rawR; rw [if_pos htx], hRR] at h1
          exact h1.mono fun e U' ⟨he, hb⟩ => ⟨he, hS6.out U' (hB6.out U U' hU.2.2.2.2.2.2 hb), hb⟩
        obtain ⟨code, hcode⟩ : ∃ code, (headD (unfieldM p.fields ++ [(ctM, textC p.typ), (cteM, codR p.typ)]) p.typ p.body [] (rawR p.typ p.body)).2 = code := ⟨_, rfl⟩
        obtain ⟨TX, hTX⟩ : ∃ TX, textQ (headD (unfieldM p.fields ++ [(ctM, textC p.typ), (cteM, codR p.typ)]) p.typ p.body [] (rawR p.typ p.body)).1.2 = TX := ⟨_, rfl⟩
        have HHd : Hid (∀ U, (U.cell? ⟨N, 0, none⟩ = some (.slice va' q vc') ∧ U.cell? ⟨N, 1, none⟩ = some (.string X) ∧ U.cell? ⟨N, 2, none⟩ = some (.string Y) ∧ U.cell? ⟨N, 3, none⟩ = some (.slice ua un uc) ∧ U.cell? ⟨N, 4, none⟩ = some (.string D) ∧ U.cell? ⟨N, 5, none⟩ = some (.slice none 0 0) ∧ Hid (Below w.heap.size w U ∧ PrtAt U N (.slice va' q vc') (.string X) (.string Y) (.slice ua un uc) (.string D) (.slice none 0 0) ∧ ParsP U (fun g => w2.heap.size ≤ g ∧ g ≠ N ∧ g < W.heap.size) (.slice ua un uc) p.typ.2.2 ∧ FieldsP U (fun g => W.heap.size ≤ g) (.slice va' q vc') (unfieldM p.fields ++ [(ctM, textC p.typ), (cteM, codR p.typ)]))) → Calls Tryz.prog 56 #[.agg #[.slice va' q vc', .string X, .string Y, .slice ua un uc, .string D, .slice none 0 0], .string RR] U fun e U' => (U'.cell? ⟨N, 0, none⟩ = some (.slice va' q vc') ∧ U'.cell? ⟨N, 1, none⟩ = some (.string X) ∧ U'.cell? ⟨N, 2, none⟩ = some (.string Y) ∧ U'.cell? ⟨N, 3, none⟩ = some (.slice ua un uc) ∧ U'.cell? ⟨N, 4, none⟩ = some (.string D) ∧ U'.cell? ⟨N, 5, none⟩ = some (.slice none 0 0) ∧ Hid (Below w.heap.size w U' ∧ PrtAt U' N (.slice va' q vc') (.string X) (.string Y) (.slice ua un uc) (.string D) (.slice none 0 0) ∧ ParsP U' (fun g => w2.heap.size ≤ g ∧ g ≠ N ∧ g < W.heap.size) (.slice ua un uc) p.typ.2.2 ∧ FieldsP U' (fun g => W.heap.size ≤ g) (.slice va' q vc') (unfieldM p.fields ++ [(ctM, textC p.typ), (cteM, codR p.typ)]))) ∧ Below U.heap.size U U' ∧ ((code = 0 ∧ e = .returned (.tuple #[.agg #[.slice va' q vc', .string X, .string Y, .slice ua un uc, .string D, .slice none 0 0, .string TX], .int .i64 0])) ∨ (code ≠ 0 ∧ e = .returned (.tuple #[.agg #[.slice none 0 0, .string ⟨#[]⟩, .string ⟨#[]⟩, .slice none 0 0, .string ⟨#[]⟩, .slice none 0 0, .string ⟨#[]⟩], .int .i64 code])))) := Lib.hid fun U hU => by
          have ht : TreeAt U U.heap.size (.mk (unfieldM p.fields ++ [(ctM, textC p.typ), (cteM, codR p.typ)]) p.typ p.body []) (.slice va' q vc') (.slice ua un uc) (.slice none 0 0) :=
            ⟨hU.2.2.2.2.2.2.out.2.2.2.at, hU.2.2.2.2.2.2.out.2.2.1.at, PartsP.nil _ _⟩
          have h1 := gheaded_any U.heap.size (.mk (unfieldM p.fields ++ [(ctM, textC p.typ), (cteM, codR p.typ)]) p.typ p.body []) (.slice va' q vc') (.slice ua un uc) (.slice none 0 0) RR U ht (Nat.le_refl _) HBig.out.1 (by rw [← hRR]; have := HBig.out.2.1; exact this) HBig.out.2.2
          unfold partV laidV noneV at h1
          rw [show RR.data.toList = rawR p.typ p.body by rw [← hRR]; rfl] at h1
          refine Calls.mono (by rw [← HXY.out.1, ← HXY.out.2.1, ← HXY.out.2.2]; exact h1) ?_
          rintro e U' ⟨hb, h2, h3⟩
          refine ⟨hS6.out U' (hB6.out U U' hU.2.2.2.2.2.2 hb), hb, ?_⟩
          by_cases h0 : code = 0
          · refine .inl ⟨h0, ?_⟩
            rw [h2 (hcode.trans h0), ← HXY.out.1, ← HXY.out.2.1, ← HXY.out.2.2, ← hTX]
            rfl
          · refine .inr ⟨h0, ?_⟩
            rw [h3 (fun e => h0 (hcode.symm.trans e)), ← hcode]
            rfl
        have HTX := Lib.hid hTX
        clear hRR hTX
        --@F
        have k7 := Lib.hid (And.intro K7.out.1 (And.intro K7.out.2.1 (And.intro K7.out.2.2.2.1 K7.out.2.2.2.2)))
        have hT0 := Lib.hid (hS6.out w6 k7)
        have hT1 := Lib.hid (hS6.out _ (hB6.out w6 _ k7 (Below.refl w6.heap.size w6).drew))
        refine wp_region_held_drew (S := (fun U => U.cell? ⟨N, 0, none⟩ = some (.slice va' q vc') ∧ U.cell? ⟨N, 1, none⟩ = some (.string X) ∧ U.cell? ⟨N, 2, none⟩ = some (.string Y) ∧ U.cell? ⟨N, 3, none⟩ = some (.slice ua un uc) ∧ U.cell? ⟨N, 4, none⟩ = some (.string D) ∧ U.cell? ⟨N, 5, none⟩ = some (.slice none 0 0) ∧ Hid (Below w.heap.size w U ∧ PrtAt U N (.slice va' q vc') (.string X) (.string Y) (.slice ua un uc) (.string D) (.slice none 0 0) ∧ ParsP U (fun g => w2.heap.size ≤ g ∧ g ≠ N ∧ g < W.heap.size) (.slice ua un uc) p.typ.2.2 ∧ FieldsP U (fun g => W.heap.size ≤ g) (.slice va' q vc') (unfieldM p.fields ++ [(ctM, textC p.typ), (cteM, codR p.typ)])))) (by kernel_rfl) (by first | assumption | exact hT0.out | exact hT1.out) (fun hHeld => ?_)
        refine' wpAnyH_take (i := 0) (v := ?v0z) ?hi0z (by kernel_rfl) (by kernel_rfl) (by kernel_rfl) ?hq0z (Or.inl ⟨?hw0z, ?hy0z⟩) (by assumption) ?hr0z
        case hi0z => (simp only [List.getElem?_toArray, List.getElem?_cons_zero]; exact rfl)
        case hq0z => exact fun _ _ _ h => h
        case hw0z => rfl
        case hy0z =>
          intro wz hz
          (try dsimp only at hz)
          go_simp
          all_goals with_reducible rfl
        try simp only [Act.put, List.setIfInBounds_toArray, List.set_cons_zero, List.set_cons_succ]
        refine' wpAnyH_take (i := 1) (v := ?v1z) ?hi1z (by kernel_rfl) (by kernel_rfl) (by kernel_rfl) ?hq1z (Or.inl ⟨?hw1z, ?hy1z⟩) (by assumption) ?hr1z
        case hi1z => (simp only [List.getElem?_toArray, List.getElem?_cons_zero, List.getElem?_cons_succ]; exact rfl)
        case hq1z => exact fun _ _ _ h => h
        case hw1z => rfl
        case hy1z =>
          intro wz hz
          (try dsimp only at hz)
          go_simp
          all_goals with_reducible rfl
        try simp only [Act.put, List.setIfInBounds_toArray, List.set_cons_zero, List.set_cons_succ]
        refine' wpAnyH_take (i := 2) (v := ?v2z) ?hi2z (by kernel_rfl) (by kernel_rfl) (by kernel_rfl) ?hq2z (Or.inl ⟨?hw2z, ?hy2z⟩) (by assumption) ?hr2z
        case hi2z => (simp only [List.getElem?_toArray, List.getElem?_cons_zero, List.getElem?_cons_succ]; exact rfl)
        case hq2z => exact fun _ _ _ h => h
        case hw2z => rfl
        case hy2z =>
          intro wz hz
          (try dsimp only at hz)
          go_simp
          all_goals with_reducible rfl
        try simp only [Act.put, List.setIfInBounds_toArray, List.set_cons_zero, List.set_cons_succ]
        refine' wpAnyH_take (i := 3) (v := ?v3z) ?hi3z (by kernel_rfl) (by kernel_rfl) (by kernel_rfl) ?hq3z (Or.inl ⟨?hw3z, ?hy3z⟩) (by assumption) ?hr3z
        case hi3z => (simp only [List.getElem?_toArray, List.getElem?_cons_zero, List.getElem?_cons_succ]; exact rfl)
        case hq3z => exact fun _ _ _ h => h
        case hw3z => rfl
        case hy3z =>
          intro wz hz
          (try dsimp only at hz)
          go_simp
          all_goals with_reducible rfl
        try simp only [Act.put, List.setIfInBounds_toArray, List.set_cons_zero, List.set_cons_succ]
        refine wpAnyH_ready (rs := [4]) (by kernel_rfl) (by simp) ?_
        refine AllReadyH.cons (o := ?hoM) ?hioM (fun KM hKM => ?hsM) AllReadyH.nil
        case hioM => (simp only [List.getElem?_toArray, List.getElem?_cons_zero, List.getElem?_cons_succ]; exact rfl)
        case hsM =>
          go_simp
          simp only [method_stell, Result.andThen_ok]
          go_simp
          go_at_call 215
          with_reducible refine (HTl.out _ ?_).mono ?_
          · assumption
          rintro e w7 ⟨rfl, hSM, hbM⟩
          refine hKM.out _ _ hSM (fun hHeldM => ?_)
          try simp only [Act.put, List.setIfInBounds_toArray, List.set_cons_zero, List.set_cons_succ]
          refine wpAnyH_ready (rs := [5]) (by kernel_rfl) (by simp) ?_
          refine AllReadyH.cons (o := ?hoO) ?hioO (fun KO hKO => ?hsO) AllReadyH.nil
          case hioO => (simp only [List.getElem?_toArray, List.getElem?_cons_zero, List.getElem?_cons_succ]; exact rfl)
          case hsO =>
            go_simp
            go_at_call 56
            with_reducible refine (HHd.out _ ?_).mono ?_
            · assumption
            rintro e w8 ⟨hSO, hbO, ⟨hc, rfl⟩ | ⟨hc, rfl⟩⟩
            · refine hKO.out _ _ hSO (fun hHeldO => ?_)
              try simp only [Act.put, List.setIfInBounds_toArray, List.set_cons_zero, List.set_cons_succ]
              refine' wpAnyH_take (i := 6) (v := ?v6P) ?hi6P (by kernel_rfl) (by kernel_rfl) (by kernel_rfl) ?hq6P (Or.inl ⟨?hw6P, ?hy6P⟩) (by assumption) ?hr6P
              case hi6P => (simp only [List.getElem?_toArray, List.getElem?_cons_zero, List.getElem?_cons_succ]; exact rfl)
              case hq6P => exact fun _ _ _ h => h
              case hw6P => rfl
              case hy6P =>
                intro wz hz
                (try dsimp only at hz)
                go_simp
                all_goals with_reducible rfl
              try simp only [Act.put, List.setIfInBounds_toArray, List.set_cons_zero, List.set_cons_succ]
              refine' wpAnyH_take (i := 7) (v := ?v7P) ?hi7P (by kernel_rfl) (by kernel_rfl) (by kernel_rfl) ?hq7P (Or.inl ⟨?hw7P, ?hy7P⟩) (by assumption) ?hr7P
              case hi7P => (simp only [List.getElem?_toArray, List.getElem?_cons_zero, List.getElem?_cons_succ]; exact rfl)
              case hq7P => exact fun _ _ _ h => h
              case hw7P => rfl
              case hy7P =>
                intro wz hz
                (try dsimp only at hz)
                go_simp
                all_goals with_reducible rfl
              try simp only [Act.put, List.setIfInBounds_toArray, List.set_cons_zero, List.set_cons_succ]
              have L8 : LdAt w8 (w.heap.size + 1) (.slice none 0 0) (.string ⟨#[]⟩) (.string ⟨#[]⟩) (.slice none 0 0) (.string ⟨#[]⟩) (.slice none 0 0) (.string ⟨#[]⟩) := by
                first
                | exact ((K7.out.2.2.1.below (Below.refl w6.heap.size w6).drew).below hbM).below hbO
                | exact (K7.out.2.2.1.below hbM).below hbO
              obtain ⟨c0, c1', c2', c3', c4, c5, c6, g0, g1, g2, g3, g4, g5, g6⟩ := L8.cells
              have K9 := hst6.out w8 (.slice va' q vc') (.string X) (.string Y) (.slice ua un uc) (.string D) (.slice none 0 0) (.string TX) hSO.2.2.2.2.2.2
              refine wpAnyH_ready (rs := [8]) (by kernel_rfl) (by simp) ?_
              refine AllReadyH.cons (o := ?hoPq) ?hioPq (fun KPq hKPq => ?hsPq) AllReadyH.nil
              case hioPq => (simp only [List.getElem?_toArray, List.getElem?_cons_zero, List.getElem?_cons_succ]; exact rfl)
              case hsPq =>
                go_simp
                refine hKPq.out _ _ (hS6.out _ K9) (fun hHeldQ => ?_)
                try simp only [Act.put, List.setIfInBounds_toArray, List.set_cons_zero, List.set_cons_succ]
                refine' wpAnyH_take (i := 9) (v := ?v9P) ?hi9P (by kernel_rfl) (by kernel_rfl) (by kernel_rfl) ?hq9P (Or.inl ⟨?hw9P, ?hy9P⟩) (by assumption) ?hr9P
                case hi9P => (simp only [List.getElem?_toArray, List.getElem?_cons_zero, List.getElem?_cons_succ]; exact rfl)
                case hq9P => exact fun _ _ _ h => h
                case hw9P => rfl
                case hy9P =>
                  intro wz hz
                  (try dsimp only at hz)
                  go_simp
                  all_goals with_reducible rfl
                try simp only [Act.put, List.setIfInBounds_toArray, List.set_cons_zero, List.set_cons_succ]
                refine wpAnyH_done (by kernel_rfl) ?_ _
                have D9 := L8.put (.slice va' q vc') (.string X) (.string Y) (.slice ua un uc) (.string D) (.slice none 0 0) (.string TX)
                obtain ⟨w9, hw9⟩ : ∃ w9, putD w8 (w.heap.size + 1) (.slice va' q vc') (.string X) (.string Y) (.slice ua un uc) (.string D) (.slice none 0 0) (.string TX) = w9 := ⟨_, rfl⟩
                rw [hw9] at K9 D9
                unfold putD at hw9
                rw [hw9]
                have Fin : Hid (Below w.heap.size w w9 ∧ TreeP w9 (fun g => w.heap.size ≤ g) (.mk (unfieldM p.fields ++ [(ctM, textC p.typ), (cteM, codR p.typ)]) p.typ p.body []) (.slice va' q vc') (.slice ua un uc) (.slice none 0 0)) := Lib.hid (by
                  have := K3.out.1.size
                  have := K2z.out
                  exact ⟨K9.out.1, K9.out.2.2.2.to (stay_self fun g hg _ => by have : W.heap.size ≤ g := hg; show w.heap.size ≤ g; omega), K9.out.2.2.1.to (stay_self fun g hg _ => by have := hg.1; show w.heap.size ≤ g; omega), PartsP.nil _ _⟩)
                clear c0 c1' c2' c3' c4 c5 c6 g0 g1 g2 g3 g4 g5 g6 L8 K9 hw9 hst6 hB6 hS6 HTl HHd hT0 hT1
                obtain ⟨r0, r1, r2, r3, r4, r5, r6, _⟩ := D9.cells
                have e9 : (headD (unfieldM p.fields ++ [(ctM, textC p.typ), (cteM, codR p.typ)]) p.typ p.body [] (rawR p.typ p.body)).1.1 = .mk (unfieldM p.fields ++ [(ctM, textC p.typ), (cteM, codR p.typ)]) p.typ p.body [] := by rw [(head_ok (hcode.trans hc)).2.1]
                go_wp2
                refine bodyPost_ret (v := .tuple #[.agg #[.slice va' q vc', .string X, .string Y, .slice ua un uc, .string D, .slice none 0 0, .string TX], .int .i64 0]) (by simp [results, Tryz.f32, go_sem, r0, r1, r2, r3, r4, r5, r6]) rfl ?_
                refine ⟨Fin.out.1, fun _ => ⟨.slice va' q vc', .slice ua un uc, .slice none 0 0, ?_, ?_⟩, fun h => absurd (hcode.trans hc) h⟩
                · rw [e9, show laidV (.mk (unfieldM p.fields ++ [(ctM, textC p.typ), (cteM, codR p.typ)]) p.typ p.body []) (.slice va' q vc') (.slice ua un uc) (.slice none 0 0) (headD (unfieldM p.fields ++ [(ctM, textC p.typ), (cteM, codR p.typ)]) p.typ p.body [] (rawR p.typ p.body)).1.2 = .agg #[.slice va' q vc', .string (textQ p.typ.1), .string (textQ p.typ.2.1), .slice ua un uc, .string (textQ p.body), .slice none 0 0, .string (textQ (headD (unfieldM p.fields ++ [(ctM, textC p.typ), (cteM, codR p.typ)]) p.typ p.body [] (rawR p.typ p.body)).1.2)] from rfl, HTX.out, HXY.out.1, HXY.out.2.1, HXY.out.2.2]
                · rw [e9]
                  exact Fin.out.2

            · refine hKO.out _ _ hSO (fun hHeldO => ?_)
              try simp only [Act.put, List.setIfInBounds_toArray, List.set_cons_zero, List.set_cons_succ]
              refine' wpAnyH_take (i := 6) (v := ?v6R) ?hi6R (by kernel_rfl) (by kernel_rfl) (by kernel_rfl) ?hq6R (Or.inl ⟨?hw6R, ?hy6R⟩) (by assumption) ?hr6R
              case hi6R => (simp only [List.getElem?_toArray, List.getElem?_cons_zero, List.getElem?_cons_succ]; exact rfl)
              case hq6R => exact fun _ _ _ h => h
              case hw6R => rfl
              case hy6R =>
                intro wz hz
                (try dsimp only at hz)
                go_simp
                all_goals with_reducible rfl
              try simp only [Act.put, List.setIfInBounds_toArray, List.set_cons_zero, List.set_cons_succ]
              refine' wpAnyH_take (i := 7) (v := ?v7R) ?hi7R (by kernel_rfl) (by kernel_rfl) (by kernel_rfl) ?hq7R (Or.inl ⟨?hw7R, ?hy7R⟩) (by assumption) ?hr7R
              case hi7R => (simp only [List.getElem?_toArray, List.getElem?_cons_zero, List.getElem?_cons_succ]; exact rfl)
              case hq7R => exact fun _ _ _ h => h
              case hw7R => rfl
              case hy7R =>
                intro wz hz
                (try dsimp only at hz)
                go_simp
                all_goals with_reducible rfl
              try simp only [Act.put, List.setIfInBounds_toArray, List.set_cons_zero, List.set_cons_succ]
              have L8 : LdAt w8 (w.heap.size + 1) (.slice none 0 0) (.string ⟨#[]⟩) (.string ⟨#[]⟩) (.slice none 0 0) (.string ⟨#[]⟩) (.slice none 0 0) (.string ⟨#[]⟩) := by
                first
                | exact ((K7.out.2.2.1.below (Below.refl w6.heap.size w6).drew).below hbM).below hbO
                | exact (K7.out.2.2.1.below hbM).below hbO
              obtain ⟨c0, c1', c2', c3', c4, c5, c6, g0, g1, g2, g3, g4, g5, g6⟩ := L8.cells
              have K9 := hst6.out w8 (.slice none 0 0) (.string ⟨#[]⟩) (.string ⟨#[]⟩) (.slice none 0 0) (.string ⟨#[]⟩) (.slice none 0 0) (.string ⟨#[]⟩) hSO.2.2.2.2.2.2
              refine wpAnyH_ready (rs := [8]) (by kernel_rfl) (by simp) ?_
              refine AllReadyH.cons (o := ?hoRq) ?hioRq (fun KRq hKRq => ?hsRq) AllReadyH.nil
              case hioRq => (simp only [List.getElem?_toArray, List.getElem?_cons_zero, List.getElem?_cons_succ]; exact rfl)
              case hsRq =>
                go_simp
                refine hKRq.out _ _ (hS6.out _ K9) (fun hHeldQ => ?_)
                try simp only [Act.put, List.setIfInBounds_toArray, List.set_cons_zero, List.set_cons_succ]
                refine' wpAnyH_take (i := 9) (v := ?v9R) ?hi9R (by kernel_rfl) (by kernel_rfl) (by kernel_rfl) ?hq9R (Or.inl ⟨?hw9R, ?hy9R⟩) (by assumption) ?hr9R
                case hi9R => (simp only [List.getElem?_toArray, List.getElem?_cons_zero, List.getElem?_cons_succ]; exact rfl)
                case hq9R => exact fun _ _ _ h => h
                case hw9R => rfl
                case hy9R =>
                  intro wz hz
                  (try dsimp only at hz)
                  go_simp
                  all_goals with_reducible rfl
                try simp only [Act.put, List.setIfInBounds_toArray, List.set_cons_zero, List.set_cons_succ]
                refine wpAnyH_done (by kernel_rfl) ?_ _
                have D9 := L8.put (.slice none 0 0) (.string ⟨#[]⟩) (.string ⟨#[]⟩) (.slice none 0 0) (.string ⟨#[]⟩) (.slice none 0 0) (.string ⟨#[]⟩)
                obtain ⟨w9, hw9⟩ : ∃ w9, putD w8 (w.heap.size + 1) (.slice none 0 0) (.string ⟨#[]⟩) (.string ⟨#[]⟩) (.slice none 0 0) (.string ⟨#[]⟩) (.slice none 0 0) (.string ⟨#[]⟩) = w9 := ⟨_, rfl⟩
                rw [hw9] at K9 D9
                unfold putD at hw9
                rw [hw9]
                have Fin : Hid (Below w.heap.size w w9 ∧ TreeP w9 (fun g => w.heap.size ≤ g) (.mk (unfieldM p.fields ++ [(ctM, textC p.typ), (cteM, codR p.typ)]) p.typ p.body []) (.slice va' q vc') (.slice ua un uc) (.slice none 0 0)) := Lib.hid (by
                  have := K3.out.1.size
                  have := K2z.out
                  exact ⟨K9.out.1, K9.out.2.2.2.to (stay_self fun g hg _ => by have : W.heap.size ≤ g := hg; show w.heap.size ≤ g; omega), K9.out.2.2.1.to (stay_self fun g hg _ => by have := hg.1; show w.heap.size ≤ g; omega), PartsP.nil _ _⟩)
                clear c0 c1' c2' c3' c4 c5 c6 g0 g1 g2 g3 g4 g5 g6 L8 K9 hw9 hst6 hB6 hS6 HTl HHd hT0 hT1
                obtain ⟨r0, r1, r2, r3, r4, r5, r6, _⟩ := D9.cells
                go_wp2
                refine bodyPost_ret (v := .tuple #[.agg #[.slice none 0 0, .string ⟨#[]⟩, .string ⟨#[]⟩, .slice none 0 0, .string ⟨#[]⟩, .slice none 0 0, .string ⟨#[]⟩], .int .i64 code]) (by simp [results, Tryz.f32, go_sem, r0, r1, r2, r3, r4, r5, r6]) rfl ?_
                refine ⟨Fin.out.1, fun h => absurd (hcode.symm.trans h) hc, fun _ => ?_⟩
                rw [hcode]
                rfl

      · have hcv : CV = .iface 127 (.agg #[]) := by rw [← HCV.out]; unfold codingV; rw [if_neg htx]
        subst hcv
        have hnm := glname_any w3
        go_wp2_with fail
        --@B
        refine hnm.mono ?_
        rintro e w4 ⟨rfl, hb⟩
        obtain ⟨T, hT⟩ : ∃ T, textQ base64M = T := ⟨_, rfl⟩
        rw [hT]
        have HTc := Lib.hid (show textQ (codR p.typ) = T by unfold codR; rw [if_neg htx]; exact hT)
        have K5 := Lib.hid (And.intro (K4.out.1.trans (hb.mono K4.out.1.size)) (And.intro (K4.out.2.1.below hb) (And.intro (K4.out.2.2.1.below hb) (And.intro (K4.out.2.2.2.1.to (stay_all hb)) (ownsRow_below4 K4.out.2.2.2.2 hb)))))
        have hz4 : W.heap.size ≤ w4.heap.size := Nat.le_trans hz3 hb.size
        clear hnm hb hT K4 hz3 x0 x1 x2 x3 x4 x5 f0 f1 f2 f3 f4 f5
        obtain ⟨x0, x1, x2, x3, x4, x5, f0, f1, f2, f3, f4, f5⟩ := K5.out.2.2.1.cells
        go_wp2_with (at_builtin; refine HeldW.of ?_)
        unfold HeldW
        --@C
        have b45 : Below w4.heap.size w4 (w4.alloc (.cells #[.string ⟨#[67, 111, 110, 116, 101, 110, 116, 45, 84, 114, 97, 110, 115, 102, 101, 114, 45, 69, 110, 99, 111, 100, 105, 110, 103]⟩, .string T] 38)) := (Below.refl _ _).alloc (Nat.le_refl _) _
        have q5 := heap_alloc_new w4 (.cells #[.string ⟨#[67, 111, 110, 116, 101, 110, 116, 45, 84, 114, 97, 110, 115, 102, 101, 114, 45, 69, 110, 99, 111, 100, 105, 110, 103]⟩, .string T] 38)
        have o5 : FieldsOwn (w4.alloc (.cells #[.string ⟨#[67, 111, 110, 116, 101, 110, 116, 45, 84, 114, 97, 110, 115, 102, 101, 114, 45, 69, 110, 99, 111, 100, 105, 110, 103]⟩, .string T] 38)) W.heap.size (.slice va fn vc) (unfieldM p.fields ++ [(ctM, textC p.typ)]) := ownsRow_below4 K5.out.2.2.2.2 b45
        have hal : (unfieldM p.fields ++ [(ctM, textC p.typ)]).length ≤ 10000000 := by
          have := unfield_len p.fields
          have := HO.out.2.2.1
          simp only [List.length_append, List.length_cons, List.length_nil]
          omega
        refine wpList_append_field rfl _ _ rfl W.heap.size (.slice va fn vc) (unfieldM p.fields ++ [(ctM, textC p.typ)]) (cteM, codR p.typ) rfl o5 (Nat.le_trans hz4 b45.size) hal w4.heap.size 1 rfl (Lib.cell_of_heap q5 0) (by rw [HTc.out]; exact Lib.cell_of_heap q5 1) ?_
        intro v' w5 ho hg
        obtain ⟨va', vc', rfl⟩ := row_slice ho
        have own (q : Nat) (e : (Value.slice va fn vc).ownBlock = some q) : W.heap.size ≤ q := (row_block o5 e).1
        have Pn := prt_grown o5 (K5.out.2.2.1.below b45) HN.out.2 hg
        have hsz45 := b45.size
        have L5 := K5.out.2.1.below b45
        have hNW := HN.out.2
        have hwN := K3.out.2.2.2.2.2
        have L6 : LdAt w5 (w.heap.size + 1) (.slice none 0 0) (.string ⟨#[]⟩) (.string ⟨#[]⟩) (.slice none 0 0) (.string ⟨#[]⟩) (.slice none 0 0) (.string ⟨#[]⟩) := (hg.block _ L5.lt (fun e => by have := own _ e.symm; omega)).trans L5
        have B5 := (K5.out.1.trans (b45.mono K5.out.1.size)).grown hg (by have := K5.out.1.size; omega) (fun q hq => by have := own q hq; have := K3.out.1.size; omega)
        have P5 : ParsP w5 (fun g => w2.heap.size ≤ g ∧ g ≠ N ∧ g < W.heap.size) (.slice ua un uc) p.typ.2.2 := (K5.out.2.2.2.1.to (stay_all b45)).to fun g hg2 hgl => ⟨hg2, fun j => cell_block (hg.block g hgl (fun e => by have := own _ e.symm; have := hg2.2.2; omega))⟩
        --@D
        have e2 : unfieldM p.fields ++ [(ctM, textC p.typ)] ++ [(cteM, codR p.typ)] = unfieldM p.fields ++ [(ctM, textC p.typ), (cteM, codR p.typ)] := by simp
        have F5 := ho.new
        rw [e2] at F5 ⊢
        obtain ⟨q, hq⟩ : ∃ q, (unfieldM p.fields ++ [(ctM, textC p.typ), (cteM, codR p.typ)]).length = q := ⟨_, rfl⟩
        rw [hq] at F5 ⊢
        obtain ⟨w6, hw6⟩ : ∃ w6, w5.setCell ⟨N, 0, none⟩ (.slice va' q vc') = w6 := ⟨_, rfl⟩
        have N6 : PrtAt w6 N (.slice va' q vc') (.string X) (.string Y) (.slice ua un uc) (.string D) (.slice none 0 0) := by rw [← hw6]; exact Pn.fields _
        have B6 : Below w.heap.size w w6 := by rw [← hw6]; exact B5.setCell (p := ⟨N, 0, none⟩) (by show w.heap.size ≤ N; omega) _
        have L7 : LdAt w6 (w.heap.size + 1) (.slice none 0 0) (.string ⟨#[]⟩) (.string ⟨#[]⟩) (.slice none 0 0) (.string ⟨#[]⟩) (.slice none 0 0) (.string ⟨#[]⟩) := by rw [← hw6]; exact (Below.heap_setCell w5 ⟨N, 0, none⟩ _ (w.heap.size + 1) (by show w.heap.size + 1 ≠ N; omega)).trans L6
        have P6 : ParsP w6 (fun g => w2.heap.size ≤ g ∧ g ≠ N ∧ g < W.heap.size) (.slice ua un uc) p.typ.2.2 := by rw [← hw6]; exact P5.to (stay_set (fun g h => h.2.1) _)
        have F6 : FieldsP w6 (fun g => W.heap.size ≤ g) (.slice va' q vc') (unfieldM p.fields ++ [(ctM, textC p.typ), (cteM, codR p.typ)]) := by rw [← hw6]; exact F5.to (stay_set (fun g h => by have : W.heap.size ≤ g := h; omega) _)
        have K7 := Lib.hid (And.intro B6 (And.intro N6 (And.intro L7 (And.intro P6 F6))))
        obtain ⟨x0, x1, x2, x3, x4, x5, f0, f1, f2, f3, f4, f5⟩ := Pn.cells
        clear b45 q5 o5 hal ho hg own Pn hsz45 L5 hNW hwN L6 B5 P5 e2 F5 hq N6 B6 L7 P6 F6 K5 hz4
        go_wp2_with fail
        --@E
        clear hw6 x0 x1 x2 x3 x4 x5 f0 f1 f2 f3 f4 f5
        have hS6 : Hid (∀ U, Hid (Below w.heap.size w U ∧ PrtAt U N (.slice va' q vc') (.string X) (.string Y) (.slice ua un uc) (.string D) (.slice none 0 0) ∧ ParsP U (fun g => w2.heap.size ≤ g ∧ g ≠ N ∧ g < W.heap.size) (.slice ua un uc) p.typ.2.2 ∧ FieldsP U (fun g => W.heap.size ≤ g) (.slice va' q vc') (unfieldM p.fields ++ [(ctM, textC p.typ), (cteM, codR p.typ)])) → U.cell? ⟨N, 0, none⟩ = some (.slice va' q vc') ∧ U.cell? ⟨N, 1, none⟩ = some (.string X) ∧ U.cell? ⟨N, 2, none⟩ = some (.string Y) ∧ U.cell? ⟨N, 3, none⟩ = some (.slice ua un uc) ∧ U.cell? ⟨N, 4, none⟩ = some (.string D) ∧ U.cell? ⟨N, 5, none⟩ = some (.slice none 0 0) ∧ Hid (Below w.heap.size w U ∧ PrtAt U N (.slice va' q vc') (.string X) (.string Y) (.slice ua un uc) (.string D) (.slice none 0 0) ∧ ParsP U (fun g => w2.heap.size ≤ g ∧ g ≠ N ∧ g < W.heap.size) (.slice ua un uc) p.typ.2.2 ∧ FieldsP U (fun g => W.heap.size ≤ g) (.slice va' q vc') (unfieldM p.fields ++ [(ctM, textC p.typ), (cteM, codR p.typ)]))) := Lib.hid fun U hU => by
          obtain ⟨k0, k1, k2, k3, k4, k5, _⟩ := hU.out.2.1.cells
          exact ⟨k0, k1, k2, k3, k4, k5, hU⟩
        have hB6 : Hid (∀ U U', Hid (Below w.heap.size w U ∧ PrtAt U N (.slice va' q vc') (.string X) (.string Y) (.slice ua un uc) (.string D) (.slice none 0 0) ∧ ParsP U (fun g => w2.heap.size ≤ g ∧ g ≠ N ∧ g < W.heap.size) (.slice ua un uc) p.typ.2.2 ∧ FieldsP U (fun g => W.heap.size ≤ g) (.slice va' q vc') (unfieldM p.fields ++ [(ctM, textC p.typ), (cteM, codR p.typ)])) → Below U.heap.size U U' → Hid (Below w.heap.size w U' ∧ PrtAt U' N (.slice va' q vc') (.string X) (.string Y) (.slice ua un uc) (.string D) (.slice none 0 0) ∧ ParsP U' (fun g => w2.heap.size ≤ g ∧ g ≠ N ∧ g < W.heap.size) (.slice ua un uc) p.typ.2.2 ∧ FieldsP U' (fun g => W.heap.size ≤ g) (.slice va' q vc') (unfieldM p.fields ++ [(ctM, textC p.typ), (cteM, codR p.typ)]))) := Lib.hid fun U U' h hb => Lib.hid ⟨h.out.1.trans (hb.mono h.out.1.size), h.out.2.1.below hb, h.out.2.2.1.to (stay_all hb), h.out.2.2.2.to (stay_all hb)⟩
        have hst6 : Hid (∀ U a b c d e f g, Hid (Below w.heap.size w U ∧ PrtAt U N (.slice va' q vc') (.string X) (.string Y) (.slice ua un uc) (.string D) (.slice none 0 0) ∧ ParsP U (fun g => w2.heap.size ≤ g ∧ g ≠ N ∧ g < W.heap.size) (.slice ua un uc) p.typ.2.2 ∧ FieldsP U (fun g => W.heap.size ≤ g) (.slice va' q vc') (unfieldM p.fields ++ [(ctM, textC p.typ), (cteM, codR p.typ)])) → Hid (Below w.heap.size w (putD U (w.heap.size + 1) a b c d e f g) ∧ PrtAt (putD U (w.heap.size + 1) a b c d e f g) N (.slice va' q vc') (.string X) (.string Y) (.slice ua un uc) (.string D) (.slice none 0 0) ∧ ParsP (putD U (w.heap.size + 1) a b c d e f g) (fun g => w2.heap.size ≤ g ∧ g ≠ N ∧ g < W.heap.size) (.slice ua un uc) p.typ.2.2 ∧ FieldsP (putD U (w.heap.size + 1) a b c d e f g) (fun g => W.heap.size ≤ g) (.slice va' q vc') (unfieldM p.fields ++ [(ctM, textC p.typ), (cteM, codR p.typ)]))) := Lib.hid fun U a b c d e f g h => Lib.hid (by
          have hwN := K3.out.2.2.2.2.2
          have hwW := HN.out
          exact ⟨below_putD h.out.1 (by omega) a b c d e f g, (putD_block (by omega) a b c d e f g).trans h.out.2.1, h.out.2.2.1.to (fun k hk _ => ⟨hk, fun _ => cell_block (putD_block (by have := hk.1; have := K2z.out; omega) a b c d e f g)⟩), h.out.2.2.2.to (fun k hk _ => ⟨hk, fun _ => cell_block (putD_block (by have hk' : W.heap.size ≤ k := hk; omega) a b c d e f g)⟩)⟩)
        obtain ⟨RR, hRR⟩ : ∃ RR, textQ (rawR p.typ p.body) = RR := ⟨_, rfl⟩
        have HTl : Hid (∀ U, (U.cell? ⟨N, 0, none⟩ = some (.slice va' q vc') ∧ U.cell? ⟨N, 1, none⟩ = some (.string X) ∧ U.cell? ⟨N, 2, none⟩ = some (.string Y) ∧ U.cell? ⟨N, 3, none⟩ = some (.slice ua un uc) ∧ U.cell? ⟨N, 4, none⟩ = some (.string D) ∧ U.cell? ⟨N, 5, none⟩ = some (.slice none 0 0) ∧ Hid (Below w.heap.size w U ∧ PrtAt U N (.slice va' q vc') (.string X) (.string Y) (.slice ua un uc) (.string D) (.slice none 0 0) ∧ ParsP U (fun g => w2.heap.size ≤ g ∧ g ≠ N ∧ g < W.heap.size) (.slice ua un uc) p.typ.2.2 ∧ FieldsP U (fun g => W.heap.size ≤ g) (.slice va' q vc') (unfieldM p.fields ++ [(ctM, textC p.typ), (cteM, codR p.typ)]))) → Calls Tryz.prog 217 #[.agg #[], .string D] U fun e U' => e = .returned (.string RR) ∧ (U'.cell? ⟨N, 0, none⟩ = some (.slice va' q vc') ∧ U'.cell? ⟨N, 1, none⟩ = some (.string X) ∧ U'.cell? ⟨N, 2, none⟩ = some (.string Y) ∧ U'.cell? ⟨N, 3, none⟩ = some (.slice ua un uc) ∧ U'.cell? ⟨N, 4, none⟩ = some (.string D) ∧ U'.cell? ⟨N, 5, none⟩ = some (.slice none 0 0) ∧ Hid (Below w.heap.size w U' ∧ PrtAt U' N (.slice va' q vc') (.string X) (.string Y) (.slice ua un uc) (.string D) (.slice none 0 0) ∧ ParsP U' (fun g => w2.heap.size ≤ g ∧ g ≠ N ∧ g < W.heap.size) (.slice ua un uc) p.typ.2.2 ∧ FieldsP U' (fun g => W.heap.size ≤ g) (.slice va' q vc') (unfieldM p.fields ++ [(ctM, textC p.typ), (cteM, codR p.typ)]))) ∧ Below U.heap.size U U') := Lib.hid fun U hU => by
          have h1 := gltell_any p.body U (by have := HO.out.2.2.2.1; omega)
          rw [HXY.out.2.2, show foldB (encB p.body) = rawR p.typ p.body by unfold rawR; rw [if_neg htx], hRR] at h1
          exact h1.mono fun e U' ⟨he, hb⟩ => ⟨he, hS6.out U' (hB6.out U U' hU.2.2.2.2.2.2 hb), hb⟩
        obtain ⟨code, hcode⟩ : ∃ code, (headD (unfieldM p.fields ++ [(ctM, textC p.typ), (cteM, codR p.typ)]) p.typ p.body [] (rawR p.typ p.body)).2 = code := ⟨_, rfl⟩
        obtain ⟨TX, hTX⟩ : ∃ TX, textQ (headD (unfieldM p.fields ++ [(ctM, textC p.typ), (cteM, codR p.typ)]) p.typ p.body [] (rawR p.typ p.body)).1.2 = TX := ⟨_, rfl⟩
        have HHd : Hid (∀ U, (U.cell? ⟨N, 0, none⟩ = some (.slice va' q vc') ∧ U.cell? ⟨N, 1, none⟩ = some (.string X) ∧ U.cell? ⟨N, 2, none⟩ = some (.string Y) ∧ U.cell? ⟨N, 3, none⟩ = some (.slice ua un uc) ∧ U.cell? ⟨N, 4, none⟩ = some (.string D) ∧ U.cell? ⟨N, 5, none⟩ = some (.slice none 0 0) ∧ Hid (Below w.heap.size w U ∧ PrtAt U N (.slice va' q vc') (.string X) (.string Y) (.slice ua un uc) (.string D) (.slice none 0 0) ∧ ParsP U (fun g => w2.heap.size ≤ g ∧ g ≠ N ∧ g < W.heap.size) (.slice ua un uc) p.typ.2.2 ∧ FieldsP U (fun g => W.heap.size ≤ g) (.slice va' q vc') (unfieldM p.fields ++ [(ctM, textC p.typ), (cteM, codR p.typ)]))) → Calls Tryz.prog 56 #[.agg #[.slice va' q vc', .string X, .string Y, .slice ua un uc, .string D, .slice none 0 0], .string RR] U fun e U' => (U'.cell? ⟨N, 0, none⟩ = some (.slice va' q vc') ∧ U'.cell? ⟨N, 1, none⟩ = some (.string X) ∧ U'.cell? ⟨N, 2, none⟩ = some (.string Y) ∧ U'.cell? ⟨N, 3, none⟩ = some (.slice ua un uc) ∧ U'.cell? ⟨N, 4, none⟩ = some (.string D) ∧ U'.cell? ⟨N, 5, none⟩ = some (.slice none 0 0) ∧ Hid (Below w.heap.size w U' ∧ PrtAt U' N (.slice va' q vc') (.string X) (.string Y) (.slice ua un uc) (.string D) (.slice none 0 0) ∧ ParsP U' (fun g => w2.heap.size ≤ g ∧ g ≠ N ∧ g < W.heap.size) (.slice ua un uc) p.typ.2.2 ∧ FieldsP U' (fun g => W.heap.size ≤ g) (.slice va' q vc') (unfieldM p.fields ++ [(ctM, textC p.typ), (cteM, codR p.typ)]))) ∧ Below U.heap.size U U' ∧ ((code = 0 ∧ e = .returned (.tuple #[.agg #[.slice va' q vc', .string X, .string Y, .slice ua un uc, .string D, .slice none 0 0, .string TX], .int .i64 0])) ∨ (code ≠ 0 ∧ e = .returned (.tuple #[.agg #[.slice none 0 0, .string ⟨#[]⟩, .string ⟨#[]⟩, .slice none 0 0, .string ⟨#[]⟩, .slice none 0 0, .string ⟨#[]⟩], .int .i64 code])))) := Lib.hid fun U hU => by
          have ht : TreeAt U U.heap.size (.mk (unfieldM p.fields ++ [(ctM, textC p.typ), (cteM, codR p.typ)]) p.typ p.body []) (.slice va' q vc') (.slice ua un uc) (.slice none 0 0) :=
            ⟨hU.2.2.2.2.2.2.out.2.2.2.at, hU.2.2.2.2.2.2.out.2.2.1.at, PartsP.nil _ _⟩
          have h1 := gheaded_any U.heap.size (.mk (unfieldM p.fields ++ [(ctM, textC p.typ), (cteM, codR p.typ)]) p.typ p.body []) (.slice va' q vc') (.slice ua un uc) (.slice none 0 0) RR U ht (Nat.le_refl _) HBig.out.1 (by rw [← hRR]; have := HBig.out.2.1; exact this) HBig.out.2.2
          unfold partV laidV noneV at h1
          rw [show RR.data.toList = rawR p.typ p.body by rw [← hRR]; rfl] at h1
          refine Calls.mono (by rw [← HXY.out.1, ← HXY.out.2.1, ← HXY.out.2.2]; exact h1) ?_
          rintro e U' ⟨hb, h2, h3⟩
          refine ⟨hS6.out U' (hB6.out U U' hU.2.2.2.2.2.2 hb), hb, ?_⟩
          by_cases h0 : code = 0
          · refine .inl ⟨h0, ?_⟩
            rw [h2 (hcode.trans h0), ← HXY.out.1, ← HXY.out.2.1, ← HXY.out.2.2, ← hTX]
            rfl
          · refine .inr ⟨h0, ?_⟩
            rw [h3 (fun e => h0 (hcode.symm.trans e)), ← hcode]
            rfl
        have HTX := Lib.hid hTX
        clear hRR hTX
        --@F
        have k7 := Lib.hid (And.intro K7.out.1 (And.intro K7.out.2.1 (And.intro K7.out.2.2.2.1 K7.out.2.2.2.2)))
        have hT0 := Lib.hid (hS6.out w6 k7)
        have hT1 := Lib.hid (hS6.out _ (hB6.out w6 _ k7 (Below.refl w6.heap.size w6).drew))
        refine wp_region_held_drew (S := (fun U => U.cell? ⟨N, 0, none⟩ = some (.slice va' q vc') ∧ U.cell? ⟨N, 1, none⟩ = some (.string X) ∧ U.cell? ⟨N, 2, none⟩ = some (.string Y) ∧ U.cell? ⟨N, 3, none⟩ = some (.slice ua un uc) ∧ U.cell? ⟨N, 4, none⟩ = some (.string D) ∧ U.cell? ⟨N, 5, none⟩ = some (.slice none 0 0) ∧ Hid (Below w.heap.size w U ∧ PrtAt U N (.slice va' q vc') (.string X) (.string Y) (.slice ua un uc) (.string D) (.slice none 0 0) ∧ ParsP U (fun g => w2.heap.size ≤ g ∧ g ≠ N ∧ g < W.heap.size) (.slice ua un uc) p.typ.2.2 ∧ FieldsP U (fun g => W.heap.size ≤ g) (.slice va' q vc') (unfieldM p.fields ++ [(ctM, textC p.typ), (cteM, codR p.typ)])))) (by kernel_rfl) (by first | assumption | exact hT0.out | exact hT1.out) (fun hHeld => ?_)
        refine' wpAnyH_take (i := 0) (v := ?v0z2) ?hi0z2 (by kernel_rfl) (by kernel_rfl) (by kernel_rfl) ?hq0z2 (Or.inl ⟨?hw0z2, ?hy0z2⟩) (by assumption) ?hr0z2
        case hi0z2 => (simp only [List.getElem?_toArray, List.getElem?_cons_zero]; exact rfl)
        case hq0z2 => exact fun _ _ _ h => h
        case hw0z2 => rfl
        case hy0z2 =>
          intro wz hz
          (try dsimp only at hz)
          go_simp
          all_goals with_reducible rfl
        try simp only [Act.put, List.setIfInBounds_toArray, List.set_cons_zero, List.set_cons_succ]
        refine' wpAnyH_take (i := 1) (v := ?v1z2) ?hi1z2 (by kernel_rfl) (by kernel_rfl) (by kernel_rfl) ?hq1z2 (Or.inl ⟨?hw1z2, ?hy1z2⟩) (by assumption) ?hr1z2
        case hi1z2 => (simp only [List.getElem?_toArray, List.getElem?_cons_zero, List.getElem?_cons_succ]; exact rfl)
        case hq1z2 => exact fun _ _ _ h => h
        case hw1z2 => rfl
        case hy1z2 =>
          intro wz hz
          (try dsimp only at hz)
          go_simp
          all_goals with_reducible rfl
        try simp only [Act.put, List.setIfInBounds_toArray, List.set_cons_zero, List.set_cons_succ]
        refine' wpAnyH_take (i := 2) (v := ?v2z2) ?hi2z2 (by kernel_rfl) (by kernel_rfl) (by kernel_rfl) ?hq2z2 (Or.inl ⟨?hw2z2, ?hy2z2⟩) (by assumption) ?hr2z2
        case hi2z2 => (simp only [List.getElem?_toArray, List.getElem?_cons_zero, List.getElem?_cons_succ]; exact rfl)
        case hq2z2 => exact fun _ _ _ h => h
        case hw2z2 => rfl
        case hy2z2 =>
          intro wz hz
          (try dsimp only at hz)
          go_simp
          all_goals with_reducible rfl
        try simp only [Act.put, List.setIfInBounds_toArray, List.set_cons_zero, List.set_cons_succ]
        refine' wpAnyH_take (i := 3) (v := ?v3z2) ?hi3z2 (by kernel_rfl) (by kernel_rfl) (by kernel_rfl) ?hq3z2 (Or.inl ⟨?hw3z2, ?hy3z2⟩) (by assumption) ?hr3z2
        case hi3z2 => (simp only [List.getElem?_toArray, List.getElem?_cons_zero, List.getElem?_cons_succ]; exact rfl)
        case hq3z2 => exact fun _ _ _ h => h
        case hw3z2 => rfl
        case hy3z2 =>
          intro wz hz
          (try dsimp only at hz)
          go_simp
          all_goals with_reducible rfl
        try simp only [Act.put, List.setIfInBounds_toArray, List.set_cons_zero, List.set_cons_succ]
        refine wpAnyH_ready (rs := [4]) (by kernel_rfl) (by simp) ?_
        refine AllReadyH.cons (o := ?hoM2) ?hioM2 (fun KM hKM => ?hsM2) AllReadyH.nil
        case hioM2 => (simp only [List.getElem?_toArray, List.getElem?_cons_zero, List.getElem?_cons_succ]; exact rfl)
        case hsM2 =>
          go_simp
          simp only [method_ltell, Result.andThen_ok]
          go_simp
          go_at_call 217
          with_reducible refine (HTl.out _ ?_).mono ?_
          · assumption
          rintro e w7 ⟨rfl, hSM, hbM⟩
          refine hKM.out _ _ hSM (fun hHeldM => ?_)
          try simp only [Act.put, List.setIfInBounds_toArray, List.set_cons_zero, List.set_cons_succ]
          refine wpAnyH_ready (rs := [5]) (by kernel_rfl) (by simp) ?_
          refine AllReadyH.cons (o := ?hoO2) ?hioO2 (fun KO hKO => ?hsO2) AllReadyH.nil
          case hioO2 => (simp only [List.getElem?_toArray, List.getElem?_cons_zero, List.getElem?_cons_succ]; exact rfl)
          case hsO2 =>
            go_simp
            go_at_call 56
            with_reducible refine (HHd.out _ ?_).mono ?_
            · assumption
            rintro e w8 ⟨hSO, hbO, ⟨hc, rfl⟩ | ⟨hc, rfl⟩⟩
            · refine hKO.out _ _ hSO (fun hHeldO => ?_)
              try simp only [Act.put, List.setIfInBounds_toArray, List.set_cons_zero, List.set_cons_succ]
              refine' wpAnyH_take (i := 6) (v := ?v6P2) ?hi6P2 (by kernel_rfl) (by kernel_rfl) (by kernel_rfl) ?hq6P2 (Or.inl ⟨?hw6P2, ?hy6P2⟩) (by assumption) ?hr6P2
              case hi6P2 => (simp only [List.getElem?_toArray, List.getElem?_cons_zero, List.getElem?_cons_succ]; exact rfl)
              case hq6P2 => exact fun _ _ _ h => h
              case hw6P2 => rfl
              case hy6P2 =>
                intro wz hz
                (try dsimp only at hz)
                go_simp
                all_goals with_reducible rfl
              try simp only [Act.put, List.setIfInBounds_toArray, List.set_cons_zero, List.set_cons_succ]
              refine' wpAnyH_take (i := 7) (v := ?v7P2) ?hi7P2 (by kernel_rfl) (by kernel_rfl) (by kernel_rfl) ?hq7P2 (Or.inl ⟨?hw7P2, ?hy7P2⟩) (by assumption) ?hr7P2
              case hi7P2 => (simp only [List.getElem?_toArray, List.getElem?_cons_zero, List.getElem?_cons_succ]; exact rfl)
              case hq7P2 => exact fun _ _ _ h => h
              case hw7P2 => rfl
              case hy7P2 =>
                intro wz hz
                (try dsimp only at hz)
                go_simp
                all_goals with_reducible rfl
              try simp only [Act.put, List.setIfInBounds_toArray, List.set_cons_zero, List.set_cons_succ]
              have L8 : LdAt w8 (w.heap.size + 1) (.slice none 0 0) (.string ⟨#[]⟩) (.string ⟨#[]⟩) (.slice none 0 0) (.string ⟨#[]⟩) (.slice none 0 0) (.string ⟨#[]⟩) := by
                first
                | exact ((K7.out.2.2.1.below (Below.refl w6.heap.size w6).drew).below hbM).below hbO
                | exact (K7.out.2.2.1.below hbM).below hbO
              obtain ⟨c0, c1', c2', c3', c4, c5, c6, g0, g1, g2, g3, g4, g5, g6⟩ := L8.cells
              have K9 := hst6.out w8 (.slice va' q vc') (.string X) (.string Y) (.slice ua un uc) (.string D) (.slice none 0 0) (.string TX) hSO.2.2.2.2.2.2
              refine wpAnyH_ready (rs := [8]) (by kernel_rfl) (by simp) ?_
              refine AllReadyH.cons (o := ?hoPq2) ?hioPq2 (fun KPq hKPq => ?hsPq2) AllReadyH.nil
              case hioPq2 => (simp only [List.getElem?_toArray, List.getElem?_cons_zero, List.getElem?_cons_succ]; exact rfl)
              case hsPq2 =>
                go_simp
                refine hKPq.out _ _ (hS6.out _ K9) (fun hHeldQ => ?_)
                try simp only [Act.put, List.setIfInBounds_toArray, List.set_cons_zero, List.set_cons_succ]
                refine' wpAnyH_take (i := 9) (v := ?v9P2) ?hi9P2 (by kernel_rfl) (by kernel_rfl) (by kernel_rfl) ?hq9P2 (Or.inl ⟨?hw9P2, ?hy9P2⟩) (by assumption) ?hr9P2
                case hi9P2 => (simp only [List.getElem?_toArray, List.getElem?_cons_zero, List.getElem?_cons_succ]; exact rfl)
                case hq9P2 => exact fun _ _ _ h => h
                case hw9P2 => rfl
                case hy9P2 =>
                  intro wz hz
                  (try dsimp only at hz)
                  go_simp
                  all_goals with_reducible rfl
                try simp only [Act.put, List.setIfInBounds_toArray, List.set_cons_zero, List.set_cons_succ]
                refine wpAnyH_done (by kernel_rfl) ?_ _
                have D9 := L8.put (.slice va' q vc') (.string X) (.string Y) (.slice ua un uc) (.string D) (.slice none 0 0) (.string TX)
                obtain ⟨w9, hw9⟩ : ∃ w9, putD w8 (w.heap.size + 1) (.slice va' q vc') (.string X) (.string Y) (.slice ua un uc) (.string D) (.slice none 0 0) (.string TX) = w9 := ⟨_, rfl⟩
                rw [hw9] at K9 D9
                unfold putD at hw9
                rw [hw9]
                have Fin : Hid (Below w.heap.size w w9 ∧ TreeP w9 (fun g => w.heap.size ≤ g) (.mk (unfieldM p.fields ++ [(ctM, textC p.typ), (cteM, codR p.typ)]) p.typ p.body []) (.slice va' q vc') (.slice ua un uc) (.slice none 0 0)) := Lib.hid (by
                  have := K3.out.1.size
                  have := K2z.out
                  exact ⟨K9.out.1, K9.out.2.2.2.to (stay_self fun g hg _ => by have : W.heap.size ≤ g := hg; show w.heap.size ≤ g; omega), K9.out.2.2.1.to (stay_self fun g hg _ => by have := hg.1; show w.heap.size ≤ g; omega), PartsP.nil _ _⟩)
                clear c0 c1' c2' c3' c4 c5 c6 g0 g1 g2 g3 g4 g5 g6 L8 K9 hw9 hst6 hB6 hS6 HTl HHd hT0 hT1
                obtain ⟨r0, r1, r2, r3, r4, r5, r6, _⟩ := D9.cells
                have e9 : (headD (unfieldM p.fields ++ [(ctM, textC p.typ), (cteM, codR p.typ)]) p.typ p.body [] (rawR p.typ p.body)).1.1 = .mk (unfieldM p.fields ++ [(ctM, textC p.typ), (cteM, codR p.typ)]) p.typ p.body [] := by rw [(head_ok (hcode.trans hc)).2.1]
                go_wp2
                refine bodyPost_ret (v := .tuple #[.agg #[.slice va' q vc', .string X, .string Y, .slice ua un uc, .string D, .slice none 0 0, .string TX], .int .i64 0]) (by simp [results, Tryz.f32, go_sem, r0, r1, r2, r3, r4, r5, r6]) rfl ?_
                refine ⟨Fin.out.1, fun _ => ⟨.slice va' q vc', .slice ua un uc, .slice none 0 0, ?_, ?_⟩, fun h => absurd (hcode.trans hc) h⟩
                · rw [e9, show laidV (.mk (unfieldM p.fields ++ [(ctM, textC p.typ), (cteM, codR p.typ)]) p.typ p.body []) (.slice va' q vc') (.slice ua un uc) (.slice none 0 0) (headD (unfieldM p.fields ++ [(ctM, textC p.typ), (cteM, codR p.typ)]) p.typ p.body [] (rawR p.typ p.body)).1.2 = .agg #[.slice va' q vc', .string (textQ p.typ.1), .string (textQ p.typ.2.1), .slice ua un uc, .string (textQ p.body), .slice none 0 0, .string (textQ (headD (unfieldM p.fields ++ [(ctM, textC p.typ), (cteM, codR p.typ)]) p.typ p.body [] (rawR p.typ p.body)).1.2)] from rfl, HTX.out, HXY.out.1, HXY.out.2.1, HXY.out.2.2]
                · rw [e9]
                  exact Fin.out.2

            · refine hKO.out _ _ hSO (fun hHeldO => ?_)
              try simp only [Act.put, List.setIfInBounds_toArray, List.set_cons_zero, List.set_cons_succ]
              refine' wpAnyH_take (i := 6) (v := ?v6R2) ?hi6R2 (by kernel_rfl) (by kernel_rfl) (by kernel_rfl) ?hq6R2 (Or.inl ⟨?hw6R2, ?hy6R2⟩) (by assumption) ?hr6R2
              case hi6R2 => (simp only [List.getElem?_toArray, List.getElem?_cons_zero, List.getElem?_cons_succ]; exact rfl)
              case hq6R2 => exact fun _ _ _ h => h
              case hw6R2 => rfl
              case hy6R2 =>
                intro wz hz
                (try dsimp only at hz)
                go_simp
                all_goals with_reducible rfl
              try simp only [Act.put, List.setIfInBounds_toArray, List.set_cons_zero, List.set_cons_succ]
              refine' wpAnyH_take (i := 7) (v := ?v7R2) ?hi7R2 (by kernel_rfl) (by kernel_rfl) (by kernel_rfl) ?hq7R2 (Or.inl ⟨?hw7R2, ?hy7R2⟩) (by assumption) ?hr7R2
              case hi7R2 => (simp only [List.getElem?_toArray, List.getElem?_cons_zero, List.getElem?_cons_succ]; exact rfl)
              case hq7R2 => exact fun _ _ _ h => h
              case hw7R2 => rfl
              case hy7R2 =>
                intro wz hz
                (try dsimp only at hz)
                go_simp
                all_goals with_reducible rfl
              try simp only [Act.put, List.setIfInBounds_toArray, List.set_cons_zero, List.set_cons_succ]
              have L8 : LdAt w8 (w.heap.size + 1) (.slice none 0 0) (.string ⟨#[]⟩) (.string ⟨#[]⟩) (.slice none 0 0) (.string ⟨#[]⟩) (.slice none 0 0) (.string ⟨#[]⟩) := by
                first
                | exact ((K7.out.2.2.1.below (Below.refl w6.heap.size w6).drew).below hbM).below hbO
                | exact (K7.out.2.2.1.below hbM).below hbO
              obtain ⟨c0, c1', c2', c3', c4, c5, c6, g0, g1, g2, g3, g4, g5, g6⟩ := L8.cells
              have K9 := hst6.out w8 (.slice none 0 0) (.string ⟨#[]⟩) (.string ⟨#[]⟩) (.slice none 0 0) (.string ⟨#[]⟩) (.slice none 0 0) (.string ⟨#[]⟩) hSO.2.2.2.2.2.2
              refine wpAnyH_ready (rs := [8]) (by kernel_rfl) (by simp) ?_
              refine AllReadyH.cons (o := ?hoRq2) ?hioRq2 (fun KRq hKRq => ?hsRq2) AllReadyH.nil
              case hioRq2 => (simp only [List.getElem?_toArray, List.getElem?_cons_zero, List.getElem?_cons_succ]; exact rfl)
              case hsRq2 =>
                go_simp
                refine hKRq.out _ _ (hS6.out _ K9) (fun hHeldQ => ?_)
                try simp only [Act.put, List.setIfInBounds_toArray, List.set_cons_zero, List.set_cons_succ]
                refine' wpAnyH_take (i := 9) (v := ?v9R2) ?hi9R2 (by kernel_rfl) (by kernel_rfl) (by kernel_rfl) ?hq9R2 (Or.inl ⟨?hw9R2, ?hy9R2⟩) (by assumption) ?hr9R2
                case hi9R2 => (simp only [List.getElem?_toArray, List.getElem?_cons_zero, List.getElem?_cons_succ]; exact rfl)
                case hq9R2 => exact fun _ _ _ h => h
                case hw9R2 => rfl
                case hy9R2 =>
                  intro wz hz
                  (try dsimp only at hz)
                  go_simp
                  all_goals with_reducible rfl
                try simp only [Act.put, List.setIfInBounds_toArray, List.set_cons_zero, List.set_cons_succ]
                refine wpAnyH_done (by kernel_rfl) ?_ _
                have D9 := L8.put (.slice none 0 0) (.string ⟨#[]⟩) (.string ⟨#[]⟩) (.slice none 0 0) (.string ⟨#[]⟩) (.slice none 0 0) (.string ⟨#[]⟩)
                obtain ⟨w9, hw9⟩ : ∃ w9, putD w8 (w.heap.size + 1) (.slice none 0 0) (.string ⟨#[]⟩) (.string ⟨#[]⟩) (.slice none 0 0) (.string ⟨#[]⟩) (.slice none 0 0) (.string ⟨#[]⟩) = w9 := ⟨_, rfl⟩
                rw [hw9] at K9 D9
                unfold putD at hw9
                rw [hw9]
                have Fin : Hid (Below w.heap.size w w9 ∧ TreeP w9 (fun g => w.heap.size ≤ g) (.mk (unfieldM p.fields ++ [(ctM, textC p.typ), (cteM, codR p.typ)]) p.typ p.body []) (.slice va' q vc') (.slice ua un uc) (.slice none 0 0)) := Lib.hid (by
                  have := K3.out.1.size
                  have := K2z.out
                  exact ⟨K9.out.1, K9.out.2.2.2.to (stay_self fun g hg _ => by have : W.heap.size ≤ g := hg; show w.heap.size ≤ g; omega), K9.out.2.2.1.to (stay_self fun g hg _ => by have := hg.1; show w.heap.size ≤ g; omega), PartsP.nil _ _⟩)
                clear c0 c1' c2' c3' c4 c5 c6 g0 g1 g2 g3 g4 g5 g6 L8 K9 hw9 hst6 hB6 hS6 HTl HHd hT0 hT1
                obtain ⟨r0, r1, r2, r3, r4, r5, r6, _⟩ := D9.cells
                go_wp2
                refine bodyPost_ret (v := .tuple #[.agg #[.slice none 0 0, .string ⟨#[]⟩, .string ⟨#[]⟩, .slice none 0 0, .string ⟨#[]⟩, .slice none 0 0, .string ⟨#[]⟩], .int .i64 code]) (by simp [results, Tryz.f32, go_sem, r0, r1, r2, r3, r4, r5, r6]) rfl ?_
                refine ⟨Fin.out.1, fun h => absurd (hcode.symm.trans h) hc, fun _ => ?_⟩
                rw [hcode]
                rfl

    | _ => exact hQ.elim
end Go.Proofs.YtjikghndoklajaaGreatDoor
