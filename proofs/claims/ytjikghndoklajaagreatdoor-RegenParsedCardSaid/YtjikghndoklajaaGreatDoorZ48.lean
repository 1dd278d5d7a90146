/-
  Texts of this proof, put together: RgO, RgR, RgS, RgT.
-/
import Derived.Test.YtjikghndoklajaaGreatDoorZ41
import Derived.Test.YtjikghndoklajaaGreatDoorZ47
import Derived.Test.YtjikghndoklajaaGreatDoorZ44
import Derived.Test.YtjikghndoklajaaGreatDoorZ35
namespace Go.Proofs.YtjikghndoklajaaGreatDoor
open Go.RowKit

set_option maxRecDepth 100000 in
set_option maxHeartbeats 4000000 in
theorem gleaf_big (B : Nat) (p : TreeM) (fv pv rv : Value) (w : World) (h : TreeAt w B p fv pv rv) (hbd : 16384 < p.body.length) (hbm : p.body.length ≤ 1000000) :
    Calls Tryz.prog 32 #[partV p fv pv rv] w fun e w' => e = .returned (.tuple #[noneV, .int .i64 3]) ∧ Below w.heap.size w w' := by
  obtain ⟨⟨a1, n1, c1, rfl⟩, ⟨a2, n2, c2, rfl⟩, ⟨a3, n3, c3, rfl⟩⟩ := h.slices
  unfold partV
  obtain ⟨X, hX⟩ : ∃ X, textQ p.typ.1 = X := ⟨_, rfl⟩
  obtain ⟨Y, hY⟩ : ∃ X, textQ p.typ.2.1 = X := ⟨_, rfl⟩
  obtain ⟨D, hD⟩ : ∃ X, textQ p.body = X := ⟨_, rfl⟩
  have sD : 16384 < D.size := by rw [← hD]; exact hbd
  have sD2 : D.size ≤ 1000000 := by rw [← hD]; exact hbm
  have hdc : decide ((16384 : Int) < (D.size : Int)) = true := decide_eq_true (by omega)
  rw [hX, hY, hD]
  clear h hX hY hD hbd hbm
  have b1 : Below w.heap.size w ((w.alloc (.cells #[.slice a1 n1 c1, .string X, .string Y, .slice a2 n2 c2, .string D, .slice a3 n3 c3] 29)).alloc (.cells #[.slice none 0 0, .string ⟨#[]⟩, .string ⟨#[]⟩, .slice none 0 0, .string ⟨#[]⟩, .slice none 0 0, .string ⟨#[]⟩] 43)) := ((Below.refl _ _).alloc (Nat.le_refl _) _).alloc (by simp) _
  have Fin := Lib.hid b1
  obtain ⟨w1, hw1⟩ : ∃ w1, (w.alloc (.cells #[.slice a1 n1 c1, .string X, .string Y, .slice a2 n2 c2, .string D, .slice a3 n3 c3] 29)).alloc (.cells #[.slice none 0 0, .string ⟨#[]⟩, .string ⟨#[]⟩, .slice none 0 0, .string ⟨#[]⟩, .slice none 0 0, .string ⟨#[]⟩] 43) = w1 := ⟨_, rfl⟩
  have p1 : PrtAt w1 w.heap.size (.slice a1 n1 c1) (.string X) (.string Y) (.slice a2 n2 c2) (.string D) (.slice a3 n3 c3) := by
    rw [← hw1]
    exact (prt_new w _ _ _ _ _ _).below ((Below.refl _ _).alloc (Nat.le_refl _) _)
  have l1 : LdAt w1 (w.heap.size + 1) (.slice none 0 0) (.string ⟨#[]⟩) (.string ⟨#[]⟩) (.slice none 0 0) (.string ⟨#[]⟩) (.slice none 0 0) (.string ⟨#[]⟩) := by
    rw [← hw1]
    have := ld_new (w.alloc (.cells #[.slice a1 n1 c1, .string X, .string Y, .slice a2 n2 c2, .string D, .slice a3 n3 c3] 29)) (.slice none 0 0) (.string ⟨#[]⟩) (.string ⟨#[]⟩) (.slice none 0 0) (.string ⟨#[]⟩) (.slice none 0 0) (.string ⟨#[]⟩)
    rw [World.size_alloc] at this
    exact this
  rw [hw1] at b1 Fin
  have D9 := l1.put (.slice none 0 0) (.string ⟨#[]⟩) (.string ⟨#[]⟩) (.slice none 0 0) (.string ⟨#[]⟩) (.slice none 0 0) (.string ⟨#[]⟩)
  have Bl := Lib.hid (below_putD b1 (Nat.le_succ _) (.slice none 0 0) (.string ⟨#[]⟩) (.string ⟨#[]⟩) (.slice none 0 0) (.string ⟨#[]⟩) (.slice none 0 0) (.string ⟨#[]⟩))
  obtain ⟨w9, hw9⟩ : ∃ w9, putD w1 (w.heap.size + 1) (.slice none 0 0) (.string ⟨#[]⟩) (.string ⟨#[]⟩) (.slice none 0 0) (.string ⟨#[]⟩) (.slice none 0 0) (.string ⟨#[]⟩) = w9 := ⟨_, rfl⟩
  rw [hw9] at Bl D9
  unfold putD at hw9
  obtain ⟨y0, y1, y2, y3, y4, y5, _⟩ := p1.cells
  obtain ⟨c0, c1', c2', c3', c4, c5, c6, g0, g1, g2, g3, g4, g5, g6⟩ := l1.cells
  obtain ⟨u0, u1, u2, u3, u4, u5, u6, _⟩ := D9.cells
  clear b1 p1 l1 D9 Fin
  go_enter Tryz.func32, Tryz.ntmps32
  go_wp2
  refine bodyPost_ret (v := .tuple #[noneV, .int .i64 3]) (by simp [noneV, results, Tryz.f32, go_sem, u0, u1, u2, u3, u4, u5, u6]) rfl ⟨rfl, Bl.out⟩
end Go.Proofs.YtjikghndoklajaaGreatDoor
namespace Go.Proofs.YtjikghndoklajaaGreatDoor
open Go.RowKit

theorem lay_out {p : TreeM} {w w1 w2 : World} {e : Ending} {N : Nat} (h : GLayPost p w1 e w2) (hb : Below w.heap.size w w1) (hB : w.heap.size ≤ N) (hN : N < w1.heap.size) (a b c d f g k : Value) : GLayPost p w e (putD w2 N a b c d f g k) := by
  obtain ⟨h1, h2, h3⟩ := h
  refine ⟨below_putD (hb.trans (h1.mono hb.size)) hB a b c d f g k, fun h0 => ?_, h3⟩
  obtain ⟨fv, pv, rv, h4, h5⟩ := h2 h0
  refine ⟨fv, pv, rv, h4, h5.to fun j hj _ => ?_⟩
  have hj : w1.heap.size ≤ j := hj
  exact ⟨Nat.le_trans hb.size hj, fun jj => cell_block (putD_block (by omega) a b c d f g k)⟩
theorem lay_shape {p : TreeM} {w w' : World} {e : Ending} (h : GLayPost p w e w') : ∃ (s0 : Option Addr) (i0 e0 : Nat) (S1 S2 : ByteArray) (s3 : Option Addr) (i3 e3 : Nat) (S4 : ByteArray) (s5 : Option Addr) (i5 e5 : Nat) (S6 : ByteArray) (co : Int), e = .returned (.tuple #[.agg #[.slice s0 i0 e0, .string S1, .string S2, .slice s3 i3 e3, .string S4, .slice s5 i5 e5, .string S6], .int .i64 co]) ∧ Hid (GLayPost p w (.returned (.tuple #[.agg #[.slice s0 i0 e0, .string S1, .string S2, .slice s3 i3 e3, .string S4, .slice s5 i5 e5, .string S6], .int .i64 co])) w') := by
  by_cases h0 : (layD p).2 = 0
  · obtain ⟨fv, pv, rv, h4, h5⟩ := h.2.1 h0
    obtain ⟨⟨a1, n1, c1, rfl⟩, ⟨a2, n2, c2, rfl⟩, ⟨a3, n3, c3, rfl⟩⟩ := h5.slices
    subst h4
    exact ⟨_, _, _, _, _, _, _, _, _, _, _, _, _, _, rfl, Lib.hid h⟩
  · have h4 := h.2.2 h0
    subst h4
    exact ⟨_, _, _, _, _, _, _, _, _, _, _, _, _, _, rfl, Lib.hid h⟩
theorem counts_len : ∀ l : List TreeM, l.length ≤ countsM l
  | [] => Nat.zero_le _
  | p :: l => by
    have := counts_len l
    have := count_pos p
    unfold countsM
    rw [List.length_cons]
    omega
theorem gleafp_any (B : Nat) (p : TreeM) (fv pv rv : Value) (w : World) (m : Int) (h : TreeAt w B p fv pv rv) (hB : B ≤ w.heap.size) (hp : p.parts = []) (hlim : LimP 90000 p) (hm : w.cell? ⟨0, 0, none⟩ = some (.int .i64 m)) :
    Calls Tryz.prog 32 #[partV p fv pv rv] w (GLayPost p w) := by
  unfold GLayPost
  obtain ⟨q1, q2, q3, q4⟩ := right_parts hlim.ty
  have hbd := hlim.bd
  by_cases hb : 16384 < p.body.length
  · rw [lay_leafE hp, if_pos hb]
    refine (gleaf_big B p fv pv rv w h hb (by omega)).mono ?_
    rintro e w' ⟨rfl, hw⟩
    exact ⟨hw, fun h => absurd h (by decide), fun _ => rfl⟩
  · rw [lay_leafE hp, if_neg hb]
    have hsf := unfield_small (n := 90000) (l := p.fields) (fun x hx => hlim.ff x hx) (typs_small hlim.ty) (by omega)
    exact gleaf_any B p fv pv rv w m h hB ⟨by omega, by omega, fun x hx => by have := q4 x hx; omega⟩ (by omega) hlim.ty (fun x hx => hlim.ff x hx) (by have := hlim.fl; omega) (by omega) hm hsf (raw_len p.typ (by omega)) (print_lim hsf)

set_option maxRecDepth 100000 in
set_option maxHeartbeats 4000000 in
theorem lay_byL (p : TreeM) (fv pv rv : Value) (w : World) (hs : (∃ a n c, fv = .slice a n c) ∧ (∃ a n c, pv = .slice a n c) ∧ ∃ a n c, rv = .slice a n c) (n : Nat) (hn : ∃ a c, rv = .slice a n c) (h0 : n = 0)
    (hcall : ∀ W, Below w.heap.size w W → Calls Tryz.prog 32 #[partV p fv pv rv] W (GLayPost p W)) :
    Calls Tryz.prog 19 #[partV p fv pv rv] w (GLayPost p w) := by
  obtain ⟨⟨a1, n1, c1, rfl⟩, ⟨a2, n2, c2, rfl⟩, ⟨a3, n3, c3, rfl⟩⟩ := hs
  unfold partV at hcall ⊢
  obtain ⟨X, hX⟩ : ∃ X, textQ p.typ.1 = X := ⟨_, rfl⟩
  obtain ⟨Y, hY⟩ : ∃ X, textQ p.typ.2.1 = X := ⟨_, rfl⟩
  obtain ⟨D, hD⟩ : ∃ X, textQ p.body = X := ⟨_, rfl⟩
  simp only [hX, hY, hD] at hcall
  rw [hX, hY, hD]
  obtain ⟨w1, hw1⟩ : ∃ w1, (w.alloc (.cells #[.slice a1 n1 c1, .string X, .string Y, .slice a2 n2 c2, .string D, .slice a3 n3 c3] 29)).alloc (.cells #[.slice none 0 0, .string ⟨#[]⟩, .string ⟨#[]⟩, .slice none 0 0, .string ⟨#[]⟩, .slice none 0 0, .string ⟨#[]⟩] 43) = w1 := ⟨_, rfl⟩
  have b1 : Below w.heap.size w w1 := by rw [← hw1]; exact ((Below.refl _ _).alloc (Nat.le_refl _) _).alloc (by simp) _
  have z1 : w1.heap.size = w.heap.size + 2 := by rw [← hw1]; simp
  have p1 : PrtAt w1 w.heap.size (.slice a1 n1 c1) (.string X) (.string Y) (.slice a2 n2 c2) (.string D) (.slice a3 n3 c3) := by
    rw [← hw1]
    exact (prt_new w _ _ _ _ _ _).below ((Below.refl _ _).alloc (Nat.le_refl _) _)
  have l1 : LdAt w1 (w.heap.size + 1) (.slice none 0 0) (.string ⟨#[]⟩) (.string ⟨#[]⟩) (.slice none 0 0) (.string ⟨#[]⟩) (.slice none 0 0) (.string ⟨#[]⟩) := by
    rw [← hw1]
    have := ld_new (w.alloc (.cells #[.slice a1 n1 c1, .string X, .string Y, .slice a2 n2 c2, .string D, .slice a3 n3 c3] 29)) (.slice none 0 0) (.string ⟨#[]⟩) (.string ⟨#[]⟩) (.slice none 0 0) (.string ⟨#[]⟩) (.slice none 0 0) (.string ⟨#[]⟩)
    rw [World.size_alloc] at this
    exact this
  obtain ⟨y0, y1, y2, y3, y4, y5, _⟩ := p1.cells
  obtain ⟨_, _, e⟩ := hn
  have e : n3 = n := by injection e
  subst e
  subst h0
  have hcl := (hcall w1 b1).mono fun e w' h => lay_shape h
  clear hcall hX hY hD
  go_enter Tryz.func19, Tryz.ntmps19
  go_wp2_with fail
  refine hcl.mono ?_
  rintro e w2 ⟨s0, i0, e0, S1, S2, s3, i3, e3, S4, s5, i5, e5, S6, co, rfl, hx⟩
  have lV := l1.below hx.out.1
  obtain ⟨m0, m1, m2, m3, m4, m5, m6, f0, f1, f2, f3, f4, f5, f6⟩ := lV.cells
  obtain ⟨g0, g1, g2, g3, g4, g5, g6, _⟩ := (lV.put (.slice s0 i0 e0) (.string S1) (.string S2) (.slice s3 i3 e3) (.string S4) (.slice s5 i5 e5) (.string S6)).cells
  have Fin := Lib.hid (lay_out hx.out b1 (show w.heap.size ≤ w.heap.size + 1 by omega) (by omega) (.slice s0 i0 e0) (.string S1) (.string S2) (.slice s3 i3 e3) (.string S4) (.slice s5 i5 e5) (.string S6))
  unfold putD at g0 g1 g2 g3 g4 g5 g6 Fin
  clear hcl p1 l1 lV b1 z1 hx y0 y1 y2 y3 y4 y5
  go_wp2
  exact bodyPost_ret (v := .tuple #[.agg #[.slice s0 i0 e0, .string S1, .string S2, .slice s3 i3 e3, .string S4, .slice s5 i5 e5, .string S6], .int .i64 co]) (by simp [results, Tryz.f19, go_sem, g0, g1, g2, g3, g4, g5, g6]) rfl Fin.out

set_option maxRecDepth 100000 in
set_option maxHeartbeats 4000000 in
theorem lay_byM (p : TreeM) (fv pv rv : Value) (w : World) (hs : (∃ a n c, fv = .slice a n c) ∧ (∃ a n c, pv = .slice a n c) ∧ ∃ a n c, rv = .slice a n c) (n : Nat) (hn : ∃ a c, rv = .slice a n c) (h0 : n ≠ 0)
    (hcall : ∀ W, Below w.heap.size w W → Calls Tryz.prog 33 #[partV p fv pv rv] W (GLayPost p W)) :
    Calls Tryz.prog 19 #[partV p fv pv rv] w (GLayPost p w) := by
  obtain ⟨⟨a1, n1, c1, rfl⟩, ⟨a2, n2, c2, rfl⟩, ⟨a3, n3, c3, rfl⟩⟩ := hs
  unfold partV at hcall ⊢
  obtain ⟨X, hX⟩ : ∃ X, textQ p.typ.1 = X := ⟨_, rfl⟩
  obtain ⟨Y, hY⟩ : ∃ X, textQ p.typ.2.1 = X := ⟨_, rfl⟩
  obtain ⟨D, hD⟩ : ∃ X, textQ p.body = X := ⟨_, rfl⟩
  simp only [hX, hY, hD] at hcall
  rw [hX, hY, hD]
  obtain ⟨w1, hw1⟩ : ∃ w1, (w.alloc (.cells #[.slice a1 n1 c1, .string X, .string Y, .slice a2 n2 c2, .string D, .slice a3 n3 c3] 29)).alloc (.cells #[.slice none 0 0, .string ⟨#[]⟩, .string ⟨#[]⟩, .slice none 0 0, .string ⟨#[]⟩, .slice none 0 0, .string ⟨#[]⟩] 43) = w1 := ⟨_, rfl⟩
  have b1 : Below w.heap.size w w1 := by rw [← hw1]; exact ((Below.refl _ _).alloc (Nat.le_refl _) _).alloc (by simp) _
  have z1 : w1.heap.size = w.heap.size + 2 := by rw [← hw1]; simp
  have p1 : PrtAt w1 w.heap.size (.slice a1 n1 c1) (.string X) (.string Y) (.slice a2 n2 c2) (.string D) (.slice a3 n3 c3) := by
    rw [← hw1]
    exact (prt_new w _ _ _ _ _ _).below ((Below.refl _ _).alloc (Nat.le_refl _) _)
  have l1 : LdAt w1 (w.heap.size + 1) (.slice none 0 0) (.string ⟨#[]⟩) (.string ⟨#[]⟩) (.slice none 0 0) (.string ⟨#[]⟩) (.slice none 0 0) (.string ⟨#[]⟩) := by
    rw [← hw1]
    have := ld_new (w.alloc (.cells #[.slice a1 n1 c1, .string X, .string Y, .slice a2 n2 c2, .string D, .slice a3 n3 c3] 29)) (.slice none 0 0) (.string ⟨#[]⟩) (.string ⟨#[]⟩) (.slice none 0 0) (.string ⟨#[]⟩) (.slice none 0 0) (.string ⟨#[]⟩)
    rw [World.size_alloc] at this
    exact this
  obtain ⟨y0, y1, y2, y3, y4, y5, _⟩ := p1.cells
  obtain ⟨_, _, e⟩ := hn
  have e : n3 = n := by injection e
  subst e
  have hc : ((n3 : Int) == 0) = false := by simpa using h0
  have hcl := (hcall w1 b1).mono fun e w' h => lay_shape h
  clear hcall hX hY hD h0
  go_enter Tryz.func19, Tryz.ntmps19
  go_wp2_with fail
  refine hcl.mono ?_
  rintro e w2 ⟨s0, i0, e0, S1, S2, s3, i3, e3, S4, s5, i5, e5, S6, co, rfl, hx⟩
  have lV := l1.below hx.out.1
  obtain ⟨m0, m1, m2, m3, m4, m5, m6, f0, f1, f2, f3, f4, f5, f6⟩ := lV.cells
  obtain ⟨g0, g1, g2, g3, g4, g5, g6, _⟩ := (lV.put (.slice s0 i0 e0) (.string S1) (.string S2) (.slice s3 i3 e3) (.string S4) (.slice s5 i5 e5) (.string S6)).cells
  have Fin := Lib.hid (lay_out hx.out b1 (show w.heap.size ≤ w.heap.size + 1 by omega) (by omega) (.slice s0 i0 e0) (.string S1) (.string S2) (.slice s3 i3 e3) (.string S4) (.slice s5 i5 e5) (.string S6))
  unfold putD at g0 g1 g2 g3 g4 g5 g6 Fin
  clear hcl p1 l1 lV b1 z1 hx y0 y1 y2 y3 y4 y5
  go_wp2
  exact bodyPost_ret (v := .tuple #[.agg #[.slice s0 i0 e0, .string S1, .string S2, .slice s3 i3 e3, .string S4, .slice s5 i5 e5, .string S6], .int .i64 co]) (by simp [results, Tryz.f19, go_sem, g0, g1, g2, g3, g4, g5, g6]) rfl Fin.out

theorem glay_any (B : Nat) (m : Int) : ∀ (n : Nat) (p : TreeM) (fv pv rv : Value) (w : World), countM p ≤ n → countM p ≤ 100 → TreeAt w B p fv pv rv → B ≤ w.heap.size → PowIs w → w.cell? ⟨0, 0, none⟩ = some (.int .i64 m) → FormD p → (∀ q ∈ nodesM p, LimP 90000 q) →
    Calls Tryz.prog 19 #[partV p fv pv rv] w (GLayPost p w)
  | 0, p, _, _, _, _, hn, _, _, _, _, _, _, _ => by
    have := count_pos p
    omega
  | n + 1, p, fv, pv, rv, w, hn, h100, h, hB, ht, hm, hf, hl => by
    have ih := glay_any B m n
    obtain ⟨f1, f2, f3, f4, f5⟩ := (form_eq p).1 hf
    have hlp := hl p (by rw [nodes_parts]; exact List.mem_cons_self)
    have hcp := count_parts p
    have hcl := counts_len p.parts
    obtain ⟨ao, cap, e, _, _⟩ := h.len
    have hmW : ∀ W, Below w.heap.size w W → W.cell? ⟨0, 0, none⟩ = some (.int .i64 m) := fun W hW => (hW.cell (p := ⟨0, 0, none⟩) (cell_ltP hm)).trans hm
    by_cases hp : p.parts = []
    · exact lay_byL p fv pv rv w h.slices p.parts.length ⟨ao, cap, e⟩ (by rw [hp]; rfl) fun W hW => gleafp_any B p fv pv rv W m (h.below hW hB) (Nat.le_trans hB hW.size) hp hlp (hmW W hW)
    · refine lay_byM p fv pv rv w h.slices p.parts.length ⟨ao, cap, e⟩ (fun e => hp (List.eq_nil_of_length_eq_zero e)) fun W hW => gmulti_any B p fv pv rv W m (h.below hW hB) (Nat.le_trans hB hW.size) hp hf hlp (by omega) (pow_below ht hW) (hmW W hW) fun i hi fv pv rv V hV hWV => ?_
      have hwV := hW.trans (hWV.mono hW.size)
      have hci := count_mem (List.getElem_mem hi)
      exact ih p.parts[i] fv pv rv V (by omega) (by omega) hV (Nat.le_trans hB hwV.size) (pow_below ht hwV) (hmW V hwV) (form_mem f5 _ (List.getElem_mem hi)) (fun q hq => hl q (by rw [nodes_parts]; exact List.mem_cons_of_mem _ (nodess_mem (List.getElem_mem hi) hq)))
end Go.Proofs.YtjikghndoklajaaGreatDoor
namespace Go.Proofs.YtjikghndoklajaaGreatDoor
open Go.RowKit

theorem laid_text {p : TreeM} {w w' : World} {s0 s3 s5 : Option Addr} {i0 e0 i3 e3 i5 e5 : Nat} {S1 S2 S4 S6 : ByteArray} {co : Int} (hf : FormD p) (h : GLayPost p w (.returned (.tuple #[.agg #[.slice s0 i0 e0, .string S1, .string S2, .slice s3 i3 e3, .string S4, .slice s5 i5 e5, .string S6], .int .i64 co])) w') : S6 = textQ (layD p).1.2 ∧ co = (layD p).2 := by
  by_cases h0 : (layD p).2 = 0
  · obtain ⟨fv, pv, rv, h4, _⟩ := h.2.1 h0
    unfold laidV at h4
    injection h4 with h4
    simp at h4
    exact ⟨h4.1.2.2.2.2.2.2, by rw [h4.2, h0]⟩
  · have h4 := h.2.2 h0
    unfold noneV at h4
    injection h4 with h4
    simp at h4
    rcases layd_says p hf with h3 | ⟨h3, _⟩
    · refine ⟨?_, h4.2⟩
      rw [h3, h4.1.2.2.2.2.2.2]
      rfl
    · exact absurd h3 h0

set_option maxRecDepth 100000 in
set_option maxHeartbeats 4000000 in
theorem glaytree_any (B : Nat) (m : Int) (p : TreeM) (fv pv rv : Value) (w : World) (h : TreeAt w B p fv pv rv) (hB : B ≤ w.heap.size) (ht : PowIs w) (hm : w.cell? ⟨0, 0, none⟩ = some (.int .i64 m)) (hf : FormD p) (hl : ∀ q ∈ nodesM p, LimP 90000 q) (hg : goodM 4 p) (hc : countM p ≤ 16) :
    Calls Tryz.prog 10 #[partV p fv pv rv] w (GLayPost p w) := by
  have hs := h.slices
  have hdeep := fun W (hW : Below w.heap.size w W) => gdeep_any 4 0 rfl B p fv pv rv W (h.below hW hB) (Nat.le_trans hB hW.size) hg
  have hcount := fun W (hW : Below w.heap.size w W) => mcount_any B p fv pv rv W (h.below hW hB) (Nat.le_trans hB hW.size) (by omega)
  have hform := fun W (hW : Below w.heap.size w W) => gform_any B 16 p fv pv rv W hc (h.below hW hB) (Nat.le_trans hB hW.size) (pow_below ht hW) hf hl
  have hlay := fun W (hW : Below w.heap.size w W) => (glay_any B m 16 p fv pv rv W hc (by omega) (h.below hW hB) (Nat.le_trans hB hW.size) (pow_below ht hW) ((hW.cell (p := ⟨0, 0, none⟩) (cell_ltP hm)).trans hm) hf hl).mono fun e w' h => lay_shape h
  obtain ⟨⟨a1, n1, c1, rfl⟩, ⟨a2, n2, c2, rfl⟩, ⟨a3, n3, c3, rfl⟩⟩ := hs
  unfold partV at hlay hdeep hcount hform ⊢
  obtain ⟨X, hX⟩ : ∃ X, textQ p.typ.1 = X := ⟨_, rfl⟩
  obtain ⟨Y, hY⟩ : ∃ X, textQ p.typ.2.1 = X := ⟨_, rfl⟩
  obtain ⟨D, hD⟩ : ∃ X, textQ p.body = X := ⟨_, rfl⟩
  simp only [hX, hY, hD] at hlay hdeep hcount hform
  rw [hX, hY, hD]
  obtain ⟨w1, hw1⟩ : ∃ w1, (w.alloc (.cells #[.slice a1 n1 c1, .string X, .string Y, .slice a2 n2 c2, .string D, .slice a3 n3 c3] 29)).alloc (.cells #[.slice none 0 0, .string ⟨#[]⟩, .string ⟨#[]⟩, .slice none 0 0, .string ⟨#[]⟩, .slice none 0 0, .string ⟨#[]⟩] 43) = w1 := ⟨_, rfl⟩
  have b1 : Below w.heap.size w w1 := by rw [← hw1]; exact ((Below.refl _ _).alloc (Nat.le_refl _) _).alloc (by simp) _
  have z1 : w1.heap.size = w.heap.size + 2 := by rw [← hw1]; simp
  have p1 : PrtAt w1 w.heap.size (.slice a1 n1 c1) (.string X) (.string Y) (.slice a2 n2 c2) (.string D) (.slice a3 n3 c3) := by
    rw [← hw1]
    exact (prt_new w _ _ _ _ _ _).below ((Below.refl _ _).alloc (Nat.le_refl _) _)
  have l1 : LdAt w1 (w.heap.size + 1) (.slice none 0 0) (.string ⟨#[]⟩) (.string ⟨#[]⟩) (.slice none 0 0) (.string ⟨#[]⟩) (.slice none 0 0) (.string ⟨#[]⟩) := by
    rw [← hw1]
    have := ld_new (w.alloc (.cells #[.slice a1 n1 c1, .string X, .string Y, .slice a2 n2 c2, .string D, .slice a3 n3 c3] 29)) (.slice none 0 0) (.string ⟨#[]⟩) (.string ⟨#[]⟩) (.slice none 0 0) (.string ⟨#[]⟩) (.slice none 0 0) (.string ⟨#[]⟩)
    rw [World.size_alloc] at this
    exact this
  obtain ⟨y0, y1, y2, y3, y4, y5, _⟩ := p1.cells
  have hdc : decide ((16 : Int) < (countM p : Int)) = false := decide_eq_false (by omega)
  obtain ⟨cn, hcn⟩ : ∃ cn, countM p = cn := ⟨_, rfl⟩
  rw [hcn] at hdc
  simp only [hcn] at hcount
  have hd1 : Calls Tryz.prog 16 #[.agg #[.slice a1 n1 c1, .string X, .string Y, .slice a2 n2 c2, .string D, .slice a3 n3 c3], .int .i64 0] w1 fun e w' => e = .returned (.bool false) ∧ Below w1.heap.size w1 w' := hdeep w1 b1
  have K1 := Lib.hid (And.intro b1 (And.intro p1 (And.intro l1 z1)))
  have HC := Lib.hid hcount
  have HFm := Lib.hid hform
  have HL := Lib.hid hlay
  clear hdeep hcount hform hlay hX hY hD b1 p1 l1 z1 h hg hc hf hl ht hm hcn hB
  go_enter Tryz.func10, Tryz.ntmps10
  go_wp2_with fail
  refine hd1.mono ?_
  rintro e w2 ⟨rfl, hb⟩
  have K2 := Lib.hid (And.intro (K1.out.1.trans (hb.mono K1.out.1.size)) hb)
  have hc2 := HC.out w2 K2.out.1
  clear hd1 hb y0 y1 y2 y3 y4 y5
  obtain ⟨y0, y1, y2, y3, y4, y5, _⟩ := (K1.out.2.1.below K2.out.2).cells
  go_wp2_with fail
  refine hc2.mono ?_
  rintro e w3 ⟨rfl, hb⟩
  have K3 := Lib.hid (And.intro (K2.out.1.trans (hb.mono K2.out.1.size)) (K2.out.2.trans (hb.mono K2.out.2.size)))
  have hc3 := HFm.out w3 K3.out.1
  clear hc2 hb y0 y1 y2 y3 y4 y5
  obtain ⟨y0, y1, y2, y3, y4, y5, _⟩ := (K1.out.2.1.below K3.out.2).cells
  go_wp2_with fail
  refine hc3.mono ?_
  rintro e w4 ⟨rfl, hb⟩
  have K4 := Lib.hid (And.intro (K3.out.1.trans (hb.mono K3.out.1.size)) (K3.out.2.trans (hb.mono K3.out.2.size)))
  have hc4 := HL.out w4 K4.out.1
  clear hc3 hb y0 y1 y2 y3 y4 y5
  obtain ⟨y0, y1, y2, y3, y4, y5, _⟩ := (K1.out.2.1.below K4.out.2).cells
  go_wp2_with fail
  refine hc4.mono ?_
  rintro e w5 ⟨s0, i0, e0, S1, S2, s3, i3, e3, S4, s5, i5, e5, S6, co, rfl, hx⟩
  have lV := (K1.out.2.2.1.below K4.out.2).below hx.out.1
  obtain ⟨m0, m1, m2, m3, m4, m5, m6, f0, f1, f2, f3, f4, f5, f6⟩ := lV.cells
  obtain ⟨g0, g1, g2, g3, g4, g5, g6, _⟩ := (lV.put (.slice s0 i0 e0) (.string S1) (.string S2) (.slice s3 i3 e3) (.string S4) (.slice s5 i5 e5) (.string S6)).cells
  have Fin := Lib.hid (lay_out hx.out K4.out.1 (show w.heap.size ≤ w.heap.size + 1 by omega) (by have := K1.out.2.2.2; have := K4.out.2.size; omega) (.slice s0 i0 e0) (.string S1) (.string S2) (.slice s3 i3 e3) (.string S4) (.slice s5 i5 e5) (.string S6))
  unfold putD at g0 g1 g2 g3 g4 g5 g6 Fin
  clear hc4 lV hx y0 y1 y2 y3 y4 y5
  go_wp2
  exact bodyPost_ret (v := .tuple #[.agg #[.slice s0 i0 e0, .string S1, .string S2, .slice s3 i3 e3, .string S4, .slice s5 i5 e5, .string S6], .int .i64 co]) (by simp [results, Tryz.f10, go_sem, g0, g1, g2, g3, g4, g5, g6]) rfl Fin.out

set_option maxRecDepth 100000 in
set_option maxHeartbeats 4000000 in
theorem glaytree_bad (B : Nat) (p : TreeM) (fv pv rv : Value) (w : World) (h : TreeAt w B p fv pv rv) (hB : B ≤ w.heap.size) (hr : rightC p.typ = false) (hg : goodM 4 p) (hc : countM p ≤ 16) :
    Calls Tryz.prog 10 #[partV p fv pv rv] w fun e w' => e = .returned (.tuple #[noneV, .int .i64 2]) ∧ Below w.heap.size w w' := by
  have hs := h.slices
  have hdeep := fun W (hW : Below w.heap.size w W) => gdeep_any 4 0 rfl B p fv pv rv W (h.below hW hB) (Nat.le_trans hB hW.size) hg
  have hcount := fun W (hW : Below w.heap.size w W) => mcount_any B p fv pv rv W (h.below hW hB) (Nat.le_trans hB hW.size) (by omega)
  have hform := fun W (hW : Below w.heap.size w W) => gform_bad B p fv pv rv W (h.below hW hB) (Nat.le_trans hB hW.size) hr
  obtain ⟨⟨a1, n1, c1, rfl⟩, ⟨a2, n2, c2, rfl⟩, ⟨a3, n3, c3, rfl⟩⟩ := hs
  unfold partV at hdeep hcount hform ⊢
  obtain ⟨X, hX⟩ : ∃ X, textQ p.typ.1 = X := ⟨_, rfl⟩
  obtain ⟨Y, hY⟩ : ∃ X, textQ p.typ.2.1 = X := ⟨_, rfl⟩
  obtain ⟨D, hD⟩ : ∃ X, textQ p.body = X := ⟨_, rfl⟩
  simp only [hX, hY, hD] at hdeep hcount hform
  rw [hX, hY, hD]
  obtain ⟨w1, hw1⟩ : ∃ w1, (w.alloc (.cells #[.slice a1 n1 c1, .string X, .string Y, .slice a2 n2 c2, .string D, .slice a3 n3 c3] 29)).alloc (.cells #[.slice none 0 0, .string ⟨#[]⟩, .string ⟨#[]⟩, .slice none 0 0, .string ⟨#[]⟩, .slice none 0 0, .string ⟨#[]⟩] 43) = w1 := ⟨_, rfl⟩
  have b1 : Below w.heap.size w w1 := by rw [← hw1]; exact ((Below.refl _ _).alloc (Nat.le_refl _) _).alloc (by simp) _
  have z1 : w1.heap.size = w.heap.size + 2 := by rw [← hw1]; simp
  have p1 : PrtAt w1 w.heap.size (.slice a1 n1 c1) (.string X) (.string Y) (.slice a2 n2 c2) (.string D) (.slice a3 n3 c3) := by
    rw [← hw1]
    exact (prt_new w _ _ _ _ _ _).below ((Below.refl _ _).alloc (Nat.le_refl _) _)
  have l1 : LdAt w1 (w.heap.size + 1) (.slice none 0 0) (.string ⟨#[]⟩) (.string ⟨#[]⟩) (.slice none 0 0) (.string ⟨#[]⟩) (.slice none 0 0) (.string ⟨#[]⟩) := by
    rw [← hw1]
    have := ld_new (w.alloc (.cells #[.slice a1 n1 c1, .string X, .string Y, .slice a2 n2 c2, .string D, .slice a3 n3 c3] 29)) (.slice none 0 0) (.string ⟨#[]⟩) (.string ⟨#[]⟩) (.slice none 0 0) (.string ⟨#[]⟩) (.slice none 0 0) (.string ⟨#[]⟩)
    rw [World.size_alloc] at this
    exact this
  obtain ⟨y0, y1, y2, y3, y4, y5, _⟩ := p1.cells
  have hdc : decide ((16 : Int) < (countM p : Int)) = false := decide_eq_false (by omega)
  obtain ⟨cn, hcn⟩ : ∃ cn, countM p = cn := ⟨_, rfl⟩
  rw [hcn] at hdc
  simp only [hcn] at hcount
  have hd1 : Calls Tryz.prog 16 #[.agg #[.slice a1 n1 c1, .string X, .string Y, .slice a2 n2 c2, .string D, .slice a3 n3 c3], .int .i64 0] w1 fun e w' => e = .returned (.bool false) ∧ Below w1.heap.size w1 w' := hdeep w1 b1
  have K1 := Lib.hid (And.intro b1 (And.intro p1 (And.intro l1 z1)))
  have HC := Lib.hid hcount
  have HFm := Lib.hid hform
  clear hdeep hcount hform hX hY hD b1 p1 l1 z1 h hg hc hr hcn hB
  go_enter Tryz.func10, Tryz.ntmps10
  go_wp2_with fail
  refine hd1.mono ?_
  rintro e w2 ⟨rfl, hb⟩
  have K2 := Lib.hid (And.intro (K1.out.1.trans (hb.mono K1.out.1.size)) hb)
  have hc2 := HC.out w2 K2.out.1
  clear hd1 hb y0 y1 y2 y3 y4 y5
  obtain ⟨y0, y1, y2, y3, y4, y5, _⟩ := (K1.out.2.1.below K2.out.2).cells
  go_wp2_with fail
  refine hc2.mono ?_
  rintro e w3 ⟨rfl, hb⟩
  have K3 := Lib.hid (And.intro (K2.out.1.trans (hb.mono K2.out.1.size)) (K2.out.2.trans (hb.mono K2.out.2.size)))
  have hc3 := HFm.out w3 K3.out.1
  clear hc2 hb y0 y1 y2 y3 y4 y5
  obtain ⟨y0, y1, y2, y3, y4, y5, _⟩ := (K1.out.2.1.below K3.out.2).cells
  go_wp2_with fail
  refine hc3.mono ?_
  rintro e w4 ⟨rfl, hb⟩
  have K4 := Lib.hid (And.intro (K3.out.1.trans (hb.mono K3.out.1.size)) (K3.out.2.trans (hb.mono K3.out.2.size)))
  have lV := K1.out.2.2.1.below K4.out.2
  obtain ⟨m0, m1, m2, m3, m4, m5, m6, f0, f1, f2, f3, f4, f5, f6⟩ := lV.cells
  obtain ⟨g0, g1, g2, g3, g4, g5, g6, _⟩ := (lV.put (.slice none 0 0) (.string ⟨#[]⟩) (.string ⟨#[]⟩) (.slice none 0 0) (.string ⟨#[]⟩) (.slice none 0 0) (.string ⟨#[]⟩)).cells
  have Fin := Lib.hid (below_putD K4.out.1 (show w.heap.size ≤ w.heap.size + 1 by omega) (.slice none 0 0) (.string ⟨#[]⟩) (.string ⟨#[]⟩) (.slice none 0 0) (.string ⟨#[]⟩) (.slice none 0 0) (.string ⟨#[]⟩))
  unfold putD at g0 g1 g2 g3 g4 g5 g6 Fin
  clear hc3 hb lV y0 y1 y2 y3 y4 y5
  go_wp2
  exact bodyPost_ret (v := .tuple #[noneV, .int .i64 2]) (by simp [noneV, results, Tryz.f10, go_sem, g0, g1, g2, g3, g4, g5, g6]) rfl ⟨rfl, Fin.out⟩

set_option maxRecDepth 100000 in
set_option maxHeartbeats 4000000 in
theorem gprint_by (p : TreeM) (fv pv rv : Value) (S6 : ByteArray) (co : Int) (w : World) (hs : (∃ a n c, fv = .slice a n c) ∧ (∃ a n c, pv = .slice a n c) ∧ ∃ a n c, rv = .slice a n c)
    (hcall : ∀ W, Below w.heap.size w W → Calls Tryz.prog 10 #[partV p fv pv rv] W fun e w' => ∃ (s0 : Option Addr) (i0 e0 : Nat) (S1 S2 : ByteArray) (s3 : Option Addr) (i3 e3 : Nat) (S4 : ByteArray) (s5 : Option Addr) (i5 e5 : Nat), e = .returned (.tuple #[.agg #[.slice s0 i0 e0, .string S1, .string S2, .slice s3 i3 e3, .string S4, .slice s5 i5 e5, .string S6], .int .i64 co]) ∧ Below W.heap.size W w') :
    Calls Tryz.prog 6 #[partV p fv pv rv] w fun e w' => e = .returned (.tuple #[.string S6, .int .i64 co]) ∧ Below w.heap.size w w' := by
  obtain ⟨⟨a1, n1, c1, rfl⟩, ⟨a2, n2, c2, rfl⟩, ⟨a3, n3, c3, rfl⟩⟩ := hs
  unfold partV at hcall ⊢
  obtain ⟨X, hX⟩ : ∃ X, textQ p.typ.1 = X := ⟨_, rfl⟩
  obtain ⟨Y, hY⟩ : ∃ X, textQ p.typ.2.1 = X := ⟨_, rfl⟩
  obtain ⟨D, hD⟩ : ∃ X, textQ p.body = X := ⟨_, rfl⟩
  simp only [hX, hY, hD] at hcall
  rw [hX, hY, hD]
  obtain ⟨w1, hw1⟩ : ∃ w1, w.alloc (.cells #[.slice a1 n1 c1, .string X, .string Y, .slice a2 n2 c2, .string D, .slice a3 n3 c3] 29) = w1 := ⟨_, rfl⟩
  have b1 : Below w.heap.size w w1 := by rw [← hw1]; exact (Below.refl _ _).alloc (Nat.le_refl _) _
  have p1 : PrtAt w1 w.heap.size (.slice a1 n1 c1) (.string X) (.string Y) (.slice a2 n2 c2) (.string D) (.slice a3 n3 c3) := by rw [← hw1]; exact prt_new w _ _ _ _ _ _
  obtain ⟨y0, y1, y2, y3, y4, y5, _⟩ := p1.cells
  have hcl := hcall w1 b1
  have K1 := Lib.hid b1
  obtain ⟨E, hE⟩ : ∃ E, S6 = E := ⟨_, rfl⟩
  clear hcall hX hY hD b1 p1 hE E
  go_enter Tryz.func6, Tryz.ntmps6
  go_wp2_with fail
  refine hcl.mono ?_
  rintro e w2 ⟨s0, i0, e0, S1, S2, s3, i3, e3, S4, s5, i5, e5, rfl, hb⟩
  obtain ⟨V, hV⟩ : ∃ V, w2.alloc (.cells #[.slice s0 i0 e0, .string S1, .string S2, .slice s3 i3 e3, .string S4, .slice s5 i5 e5, .string S6] 43) = V := ⟨_, rfl⟩
  have bV : Below w2.heap.size w2 V := by rw [← hV]; exact (Below.refl _ _).alloc (Nat.le_refl _) _
  have lV : LdAt V w2.heap.size (.slice s0 i0 e0) (.string S1) (.string S2) (.slice s3 i3 e3) (.string S4) (.slice s5 i5 e5) (.string S6) := by rw [← hV]; exact ld_new w2 _ _ _ _ _ _ _
  obtain ⟨m0, m1, m2, m3, m4, m5, m6, _⟩ := lV.cells
  have Fin := Lib.hid (K1.out.trans ((hb.trans (bV.mono hb.size)).mono K1.out.size))
  clear hcl hb bV lV y0 y1 y2 y3 y4 y5
  go_wp2
  go_ret2
  all_goals first | exact ⟨rfl, Fin.out⟩ | exact Fin.out
end Go.Proofs.YtjikghndoklajaaGreatDoor
namespace Go.Proofs.YtjikghndoklajaaGreatDoor
open Go.RowKit

set_option maxRecDepth 100000 in
set_option maxHeartbeats 4000000 in
theorem gcanon_by (p c : TreeM) (fv pv rv : Value) (w : World) (hs : (∃ a n c, fv = .slice a n c) ∧ (∃ a n c, pv = .slice a n c) ∧ ∃ a n c, rv = .slice a n c) (h0 : (layD p).2 = 0) (hc : (layD p).1.1 = c)
    (hcall : ∀ W, Below w.heap.size w W → Calls Tryz.prog 10 #[partV p fv pv rv] W (GLayPost p W)) :
    Calls Tryz.prog 8 #[partV p fv pv rv] w fun e w' => ∃ fv pv rv, e = .returned (.tuple #[partV c fv pv rv, .int .i64 0]) ∧ TreeP w' (fun g => w.heap.size ≤ g) c fv pv rv ∧ Below w.heap.size w w' := by
  obtain ⟨⟨a1, n1, c1, rfl⟩, ⟨a2, n2, c2, rfl⟩, ⟨a3, n3, c3, rfl⟩⟩ := hs
  unfold partV at hcall ⊢
  obtain ⟨X, hX⟩ : ∃ X, textQ p.typ.1 = X := ⟨_, rfl⟩
  obtain ⟨Y, hY⟩ : ∃ X, textQ p.typ.2.1 = X := ⟨_, rfl⟩
  obtain ⟨D, hD⟩ : ∃ X, textQ p.body = X := ⟨_, rfl⟩
  simp only [hX, hY, hD] at hcall
  rw [hX, hY, hD]
  obtain ⟨w1, hw1⟩ : ∃ w1, (w.alloc (.cells #[.slice a1 n1 c1, .string X, .string Y, .slice a2 n2 c2, .string D, .slice a3 n3 c3] 29)).alloc (.cells #[.slice none 0 0, .string ⟨#[]⟩, .string ⟨#[]⟩, .slice none 0 0, .string ⟨#[]⟩, .slice none 0 0] 29) = w1 := ⟨_, rfl⟩
  have b1 : Below w.heap.size w w1 := by rw [← hw1]; exact ((Below.refl _ _).alloc (Nat.le_refl _) _).alloc (by simp) _
  have p1 : PrtAt w1 w.heap.size (.slice a1 n1 c1) (.string X) (.string Y) (.slice a2 n2 c2) (.string D) (.slice a3 n3 c3) := by rw [← hw1]; exact (prt_new w _ _ _ _ _ _).below ((Below.refl _ _).alloc (Nat.le_refl _) _)
  obtain ⟨y0, y1, y2, y3, y4, y5, _⟩ := p1.cells
  have z1 : w1.heap.size = w.heap.size + 2 := by rw [← hw1]; simp
  have q1 : PrtAt w1 (w.heap.size + 1) (.slice none 0 0) (.string ⟨#[]⟩) (.string ⟨#[]⟩) (.slice none 0 0) (.string ⟨#[]⟩) (.slice none 0 0) := by
    rw [← hw1]
    have := prt_new (w.alloc (.cells #[.slice a1 n1 c1, .string X, .string Y, .slice a2 n2 c2, .string D, .slice a3 n3 c3] 29)) (.slice none 0 0) (.string ⟨#[]⟩) (.string ⟨#[]⟩) (.slice none 0 0) (.string ⟨#[]⟩) (.slice none 0 0)
    rw [World.size_alloc] at this
    exact this
  obtain ⟨QX, hQX⟩ : ∃ QX, textQ c.typ.1 = QX := ⟨_, rfl⟩
  obtain ⟨QY, hQY⟩ : ∃ QY, textQ c.typ.2.1 = QY := ⟨_, rfl⟩
  obtain ⟨QD, hQD⟩ : ∃ QD, textQ c.body = QD := ⟨_, rfl⟩
  obtain ⟨QS, hQS⟩ : ∃ QS, textQ (layD p).1.2 = QS := ⟨_, rfl⟩
  have hcl : Calls Tryz.prog 10 #[.agg #[.slice a1 n1 c1, .string X, .string Y, .slice a2 n2 c2, .string D, .slice a3 n3 c3]] w1 fun e w' => ∃ a5 n5 q5 a6 n6 q6 a7 n7 q7, e = .returned (.tuple #[.agg #[.slice a5 n5 q5, .string QX, .string QY, .slice a6 n6 q6, .string QD, .slice a7 n7 q7, .string QS], .int .i64 0]) ∧ Hid (Below w1.heap.size w1 w' ∧ TreeP w' (fun g => w1.heap.size ≤ g) c (.slice a5 n5 q5) (.slice a6 n6 q6) (.slice a7 n7 q7)) := (hcall w1 b1).mono fun e w' ⟨h1, h2, _⟩ => by
    obtain ⟨fv, pv, rv, h3, h4⟩ := h2 h0
    rw [hc] at h3 h4
    obtain ⟨⟨a5, n5, q5, rfl⟩, ⟨a6, n6, q6, rfl⟩, ⟨a7, n7, q7, rfl⟩⟩ := h4.slices
    exact ⟨_, _, _, _, _, _, _, _, _, by rw [h3]; unfold laidV; rw [hQX, hQY, hQD, hQS], Lib.hid ⟨h1, h4⟩⟩
  rw [hQX, hQY, hQD]
  have K1 := Lib.hid (And.intro b1 (And.intro q1 z1))
  clear hcall hX hY hD b1 p1 q1 z1 hQX hQY hQD hQS h0 hc
  go_enter Tryz.func8, Tryz.ntmps8
  go_wp2_with fail
  refine hcl.mono ?_
  rintro e w2 ⟨a5, n5, q5, a6, n6, q6, a7, n7, q7, rfl, hx⟩
  obtain ⟨V, hV⟩ : ∃ V, w2.alloc (.cells #[.slice a5 n5 q5, .string QX, .string QY, .slice a6 n6 q6, .string QD, .slice a7 n7 q7, .string QS] 43) = V := ⟨_, rfl⟩
  have bV : Below w2.heap.size w2 V := by rw [← hV]; exact (Below.refl _ _).alloc (Nat.le_refl _) _
  have lV : LdAt V w2.heap.size (.slice a5 n5 q5) (.string QX) (.string QY) (.slice a6 n6 q6) (.string QD) (.slice a7 n7 q7) (.string QS) := by rw [← hV]; exact ld_new w2 _ _ _ _ _ _ _
  have b1V := hx.out.1.trans (bV.mono hx.out.1.size)
  have qV := K1.out.2.1.below b1V
  obtain ⟨m0, m1, m2, m3, m4, m5, m6, _⟩ := lV.cells
  obtain ⟨t0, t1, t2, t3, t4, t5, f0, f1, f2, f3, f4, f5⟩ := qV.cells
  obtain ⟨g0, g1, g2, g3, g4, g5, _⟩ := (qV.put (.slice a5 n5 q5) (.string QX) (.string QY) (.slice a6 n6 q6) (.string QD) (.slice a7 n7 q7)).cells
  have Fin := Lib.hid (show TreeP (putP V (w.heap.size + 1) (.slice a5 n5 q5) (.string QX) (.string QY) (.slice a6 n6 q6) (.string QD) (.slice a7 n7 q7)) (fun g => w.heap.size ≤ g) c (.slice a5 n5 q5) (.slice a6 n6 q6) (.slice a7 n7 q7) ∧ Below w.heap.size w (putP V (w.heap.size + 1) (.slice a5 n5 q5) (.string QX) (.string QY) (.slice a6 n6 q6) (.string QD) (.slice a7 n7 q7)) from by
    have hz := K1.out.2.2
    refine ⟨hx.out.2.to fun g hg hl => ?_, below_putP (K1.out.1.trans (b1V.mono K1.out.1.size)) (by omega) _ _ _ _ _ _⟩
    have hg : w1.heap.size ≤ g := hg
    exact ⟨by omega, fun jj => cell_block ((putP_block (by omega) _ _ _ _ _ _).trans (bV.block g hl))⟩)
  unfold putP at g0 g1 g2 g3 g4 g5 Fin
  clear hcl hx bV lV b1V qV K1 y0 y1 y2 y3 y4 y5
  go_wp2
  exact bodyPost_ret (v := .tuple #[.agg #[.slice a5 n5 q5, .string QX, .string QY, .slice a6 n6 q6, .string QD, .slice a7 n7 q7], .int .i64 0]) (by simp [results, Tryz.f8, go_sem, g0, g1, g2, g3, g4, g5]) rfl ⟨_, _, _, rfl, Fin.out⟩
end Go.Proofs.YtjikghndoklajaaGreatDoor
