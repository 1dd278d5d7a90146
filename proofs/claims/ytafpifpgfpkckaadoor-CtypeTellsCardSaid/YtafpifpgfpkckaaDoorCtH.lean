/-
  What ctype's readParam comes to.
-/
import Derived.Test.YtafpifpgfpkckaaDoorCtG
namespace Go.Proofs.YtafpifpgfpkckaaDoor
open Go.RowKit

theorem TakeK.put {T B : Nat} {u w : World} (h : TakeK T B u w) {p : Addr} (hp : B ≤ p.block) (v : Value) : TakeK T B u (w.setCell p v) := h.trans (.of ((Below.refl B w).setCell hp v))
theorem ParAt.put {w : World} {B : Nat} {X Y : ByteArray} (h : ParAt w B X Y) (X' Y' : ByteArray) : ParAt ((w.setCell ⟨B, 0, none⟩ (.string X')).setCell ⟨B, 1, none⟩ (.string Y')) B X' Y' := by
  unfold ParAt at h ⊢
  have h1 := heap_setCell_same w B 0 _ _ (.string X') h
  have h2 := heap_setCell_same _ B 1 _ _ (.string Y') h1
  rw [h2]
  rfl
theorem ParAt.name {w : World} {B : Nat} {X Y : ByteArray} (h : ParAt w B X Y) (X' : ByteArray) : ParAt (w.setCell ⟨B, 0, none⟩ (.string X')) B X' Y := by
  unfold ParAt at h ⊢
  rw [heap_setCell_same w B 0 _ _ (.string X') h]
  rfl
theorem ParAt.value {w : World} {B : Nat} {X Y : ByteArray} (h : ParAt w B X Y) (Y' : ByteArray) : ParAt (w.setCell ⟨B, 1, none⟩ (.string Y')) B X Y' := by
  unfold ParAt at h ⊢
  rw [heap_setCell_same w B 1 _ _ (.string Y') h]
  rfl
theorem boxed_set {w : World} {T : Nat} {t : TypeId} {v : Value} (h : Boxed w T t v) {p : Addr} (hp : p.block ≠ T) (u : Value) : Boxed (w.setCell p u) T t v := (Below.heap_setCell w p u T (fun e => hp e.symm)).trans h
/-- A parameter and what stands behind it, or none. -/
def TookP (o : Option (ParC × TextA)) (T : Nat) (e : Ending) (w' : World) : Prop := match o with
  | none => ∃ X Y R, e = .returned (.tuple #[.agg #[.string X, .string Y], .bool false]) ∧ Boxed w' T 9 (.string R)
  | some x => e = .returned (.tuple #[.agg #[.string (textQ x.1.1), .string (textQ x.1.2)], .bool true]) ∧ Boxed w' T 9 (.string (textQ x.2))

set_option maxRecDepth 100000 in
set_option maxHeartbeats 2000000 in
theorem crdparam_any (T : Nat) (s : TextA) (w : World) (hT : Boxed w T 9 (.string (textQ s))) (hs : s.length ≤ 100000000) :
    Calls Tryd.prog 40 #[takeV T] w fun e w' => TookP (paramC s) T e w' ∧ TakeK T w.heap.size w w' := by
  have hTl := hT.lt
  obtain ⟨w0, hw0⟩ : ∃ w0, w.alloc (.cells #[.string ⟨#[]⟩, .string ⟨#[]⟩] 42) = w0 := ⟨_, rfl⟩
  have l0 : Below w.heap.size w w0 := by rw [← hw0]; exact (Below.refl _ _).alloc (Nat.le_refl _) _
  have z0 : w.heap.size < w0.heap.size := by rw [← hw0]; simp
  have p0 : ParAt w0 w.heap.size ⟨#[]⟩ ⟨#[]⟩ := by rw [← hw0]; exact par_new w _ _
  have h1 := crdname_any T s w0 (boxed_below hT l0) (by omega)
  have hdl := drop_len inNameC s
  obtain ⟨u, hu⟩ : ∃ u, s.dropWhile inNameC = u := ⟨_, rfl⟩
  unfold paramC
  rw [hu] at h1 hdl
  rw [hu]
  have h2 : Hid (∀ W, Boxed W T 9 (.string (textQ u)) → Calls Tryd.prog 39 #[takeV T, .int .u8 61] W fun e w' => e = .returned (.bool (cutA 61 u).isSome) ∧ Boxed w' T 9 (.string (textQ ((cutA 61 u).getD u))) ∧ TakeK T W.heap.size W w') := Lib.hid fun W hW => cone_any 61 T u W hW (by omega)
  obtain ⟨N, hN⟩ : ∃ N, textQ (wordC s) = N := ⟨_, rfl⟩
  rw [hN] at h1
  have L0 := Lib.hid l0
  have P0 := Lib.hid p0
  clear hT l0 p0 hu
  cases hq : cutA 61 u with
  | none =>
    rw [hq] at h2
    have h2 : Hid (∀ W, Boxed W T 9 (.string (textQ u)) → Calls Tryd.prog 39 #[takeV T, .int .u8 61] W fun e w' => e = .returned (.bool false) ∧ Boxed w' T 9 (.string (textQ u)) ∧ TakeK T W.heap.size W w') := h2
    show Calls _ _ _ _ fun e w' => TookP none T e w' ∧ _
    clear hq hN
    unfold takeV at h1 h2 ⊢
    go_enter Tryd.func40, Tryd.ntmps40
    go_wp2_with fail
    refine h1.mono ?_
    rintro e w1 ⟨rfl, q1, q2⟩
    have p1 : ParAt w1 w.heap.size ⟨#[]⟩ ⟨#[]⟩ := q2.heap P0.out z0 (by omega)
    obtain ⟨c0, c1, c2, c3⟩ := p1.cells
    obtain ⟨wa, hwa⟩ : ∃ wa, w1.setCell ⟨w.heap.size, 0, none⟩ (.string N) = wa := ⟨_, rfl⟩
    have h21 := h2.out wa (by rw [← hwa]; exact boxed_set q1 (by show w.heap.size ≠ T; omega) _)
    have pa : ParAt wa w.heap.size N ⟨#[]⟩ := by rw [← hwa]; exact p1.name N
    have ka : TakeK T w.heap.size w wa := by rw [← hwa]; exact ((TakeK.of L0.out).trans (q2.mono (by omega))).put (p := ⟨w.heap.size, 0, none⟩) (Nat.le_refl _) _
    have za : w.heap.size < wa.heap.size := by have := ka.size; rw [← hwa]; have := q2.size; simp [World.setCell]; omega
    have Pa := Lib.hid (And.intro pa ka)
    clear h1 h2 q1 q2 p1 pa ka L0 P0
    go_wp2_with fail
    refine h21.mono ?_
    rintro e w2 ⟨rfl, q1, q2⟩
    have p2 : ParAt w2 w.heap.size N ⟨#[]⟩ := q2.heap Pa.out.1 za (by omega)
    obtain ⟨c0, c1, c2, c3⟩ := p2.cells
    obtain ⟨k0, k1, _⟩ := (p2.put ⟨#[]⟩ ⟨#[]⟩).cells
    have Q := Lib.hid (show Boxed ((w2.setCell ⟨w.heap.size, 0, none⟩ (.string ⟨#[]⟩)).setCell ⟨w.heap.size, 1, none⟩ (.string ⟨#[]⟩)) T 9 (.string (textQ u)) ∧ TakeK T w.heap.size w ((w2.setCell ⟨w.heap.size, 0, none⟩ (.string ⟨#[]⟩)).setCell ⟨w.heap.size, 1, none⟩ (.string ⟨#[]⟩)) from
      ⟨boxed_set (boxed_set q1 (by show w.heap.size ≠ T; omega) _) (by show w.heap.size ≠ T; omega) _, ((Pa.out.2.trans (q2.mono (by omega))).put (p := ⟨w.heap.size, 0, none⟩) (Nat.le_refl _) _).put (p := ⟨w.heap.size, 1, none⟩) (Nat.le_refl _) _⟩)
    clear h21 q1 q2 p2 Pa
    go_wp2
    refine bodyPost_ret (v := .tuple #[.agg #[.string ⟨#[]⟩, .string ⟨#[]⟩], .bool false]) (by simp [results, Tryd.f40, go_sem, k0, k1]) rfl ⟨⟨_, _, _, rfl, Q.out.1⟩, Q.out.2⟩
  | some r =>
    rw [hq] at h2
    have h2 : Hid (∀ W, Boxed W T 9 (.string (textQ u)) → Calls Tryd.prog 39 #[takeV T, .int .u8 61] W fun e w' => e = .returned (.bool true) ∧ Boxed w' T 9 (.string (textQ r)) ∧ TakeK T W.heap.size W w') := h2
    have hrl : r.length ≤ s.length := by
      have := congrArg List.length (cut_len hq)
      rw [List.length_cons] at this
      omega
    have h3 : Hid (∀ W, Boxed W T 9 (.string (textQ r)) → Calls Tryd.prog 55 #[takeV T] W fun e w' => TookV (valueC r) T e w' ∧ TakeK T W.heap.size W w') := Lib.hid fun W hW => crdvalue_any T r W hW (by omega)
    show Calls _ _ _ _ fun e w' => TookP (match valueC r with | none => none | some (v, u) => some ((wordC s, v), u)) T e w' ∧ _
    obtain ⟨P, hP⟩ : ∃ P : Ending → World → Prop, TookP (match valueC r with | none => none | some (v, u) => some ((wordC s, v), u)) T = P := ⟨_, rfl⟩
    rw [hP]
    have h4 : Hid (∀ W, Boxed W T 9 (.string (textQ r)) → Calls Tryd.prog 55 #[takeV T] W fun e w' => (∃ X b R, e = .returned (.tuple #[.string X, .bool b]) ∧ Hid (Boxed w' T 9 (.string R) ∧ ∀ w'', Boxed w'' T 9 (.string R) → P (.returned (.tuple #[.agg #[.string N, .string X], .bool b])) w'')) ∧ TakeK T W.heap.size W w') := Lib.hid fun W hW => by
      refine (h3.out W hW).mono ?_
      rintro e w' ⟨hv, hk⟩
      refine ⟨?_, hk⟩
      cases hr : valueC r with
      | none =>
        rw [hr] at hv hP
        obtain ⟨X, R, rfl, hb⟩ := hv
        refine ⟨X, false, R, rfl, Lib.hid ⟨hb, fun w'' hw'' => ?_⟩⟩
        rw [← hP]
        exact ⟨N, X, R, rfl, hw''⟩
      | some x =>
        obtain ⟨v, u2⟩ := x
        rw [hr] at hv hP
        obtain ⟨rfl, hb⟩ := hv
        refine ⟨_, true, _, rfl, Lib.hid ⟨hb, fun w'' hw'' => ?_⟩⟩
        rw [← hP]
        exact ⟨by rw [← hN], hw''⟩
    clear hq hN h3 hP hrl
    unfold takeV at h1 h2 h4 ⊢
    go_enter Tryd.func40, Tryd.ntmps40
    go_wp2_with fail
    refine h1.mono ?_
    rintro e w1 ⟨rfl, q1, q2⟩
    have p1 : ParAt w1 w.heap.size ⟨#[]⟩ ⟨#[]⟩ := q2.heap P0.out z0 (by omega)
    obtain ⟨c0, c1, c2, c3⟩ := p1.cells
    obtain ⟨wa, hwa⟩ : ∃ wa, w1.setCell ⟨w.heap.size, 0, none⟩ (.string N) = wa := ⟨_, rfl⟩
    have h21 := h2.out wa (by rw [← hwa]; exact boxed_set q1 (by show w.heap.size ≠ T; omega) _)
    have pa : ParAt wa w.heap.size N ⟨#[]⟩ := by rw [← hwa]; exact p1.name N
    have ka : TakeK T w.heap.size w wa := by rw [← hwa]; exact ((TakeK.of L0.out).trans (q2.mono (by omega))).put (p := ⟨w.heap.size, 0, none⟩) (Nat.le_refl _) _
    have za : w.heap.size < wa.heap.size := by have := ka.size; rw [← hwa]; have := q2.size; simp [World.setCell]; omega
    have Pa := Lib.hid (And.intro pa ka)
    clear h1 h2 q1 q2 p1 pa ka L0 P0
    go_wp2_with fail
    refine h21.mono ?_
    rintro e w2 ⟨rfl, q1, q2⟩
    have p2 : ParAt w2 w.heap.size N ⟨#[]⟩ := q2.heap Pa.out.1 za (by omega)
    have h41 := h4.out w2 q1
    have z2 : w.heap.size < w2.heap.size := by have := q2.size; omega
    have P2 := Lib.hid (And.intro p2 (Pa.out.2.trans (q2.mono (by omega))))
    clear h21 q1 q2 p2 Pa h4
    go_wp2_with fail
    refine h41.mono ?_
    rintro e w3 ⟨⟨X, b, R, rfl, hb⟩, q2⟩
    have p3 : ParAt w3 w.heap.size N ⟨#[]⟩ := q2.heap P2.out.1 z2 (by omega)
    obtain ⟨c0, c1, c2, c3⟩ := p3.cells
    obtain ⟨wb, hwb⟩ : ∃ wb, w3.setCell ⟨w.heap.size, 1, none⟩ (.string X) = wb := ⟨_, rfl⟩
    have pb : ParAt wb w.heap.size N X := by rw [← hwb]; exact p3.value X
    have kb : TakeK T w.heap.size w wb := by rw [← hwb]; exact (P2.out.2.trans (q2.mono (by omega))).put (p := ⟨w.heap.size, 1, none⟩) (Nat.le_refl _) _
    have xb : Boxed wb T 9 (.string R) := by rw [← hwb]; exact boxed_set hb.out.1 (by show w.heap.size ≠ T; omega) _
    obtain ⟨d0, d1, d2, d3⟩ := pb.cells
    obtain ⟨k0, k1, _⟩ := (pb.put N X).cells
    have Q := Lib.hid (show P (.returned (.tuple #[.agg #[.string N, .string X], .bool b])) ((wb.setCell ⟨w.heap.size, 0, none⟩ (.string N)).setCell ⟨w.heap.size, 1, none⟩ (.string X)) ∧ TakeK T w.heap.size w ((wb.setCell ⟨w.heap.size, 0, none⟩ (.string N)).setCell ⟨w.heap.size, 1, none⟩ (.string X)) from
      ⟨hb.out.2 _ (boxed_set (boxed_set xb (by show w.heap.size ≠ T; omega) _) (by show w.heap.size ≠ T; omega) _), (kb.put (p := ⟨w.heap.size, 0, none⟩) (Nat.le_refl _) _).put (p := ⟨w.heap.size, 1, none⟩) (Nat.le_refl _) _⟩)
    clear h41 q2 p3 P2 pb kb xb hb
    go_wp2
    refine bodyPost_ret (v := .tuple #[.agg #[.string N, .string X], .bool b]) (by simp [results, Tryd.f40, go_sem, k0, k1]) rfl Q.out
end Go.Proofs.YtafpifpgfpkckaaDoor
