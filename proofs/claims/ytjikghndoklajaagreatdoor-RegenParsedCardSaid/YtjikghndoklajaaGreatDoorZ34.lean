/-
  Texts of this proof, put together: MmE.
-/
import Derived.Test.YtjikghndoklajaaGreatDoorZ33
namespace Go.Proofs.YtjikghndoklajaaGreatDoor
open Go.RowKit

theorem enter_reader : ∀ args w, (callFunc 14 args).run Tryz.prog w = .ok (.enter 14 args) w := enters_of Tryz.func14 (by kernel_rfl) rfl
set_option maxRecDepth 100000 in
set_option maxHeartbeats 16000000 in
theorem mreader_step (Cb Rb : Nat) (m : Int) (d j : Nat) (hd : j + d = 4) (ih : ∀ d', d = d' + 1 → ∀ (s : ByteArray) (n : Nat) (w : World), s.size ≤ 90000 → n ≤ 16 → RdOk Cb Rb m n w → Calls Tryz.prog 14 #[.string s, .int .i64 ((j : Int) + 1), .pointer (some ⟨Cb, 0, none⟩), .pointer (some ⟨Rb, 0, none⟩)] w (ReadPost (partM d' s.data.toList n) Cb w))
    (s : ByteArray) (n : Nat) (w : World) (hs : s.size ≤ 90000) (hn : n ≤ 16) (hk : RdOk Cb Rb m n w) :
    Calls Tryz.prog 14 #[.string s, .int .i64 (j : Int), .pointer (some ⟨Cb, 0, none⟩), .pointer (some ⟨Rb, 0, none⟩)] w (ReadPost (partM d s.data.toList n) Cb w) := by
  obtain ⟨R, hR⟩ : ∃ R, partM d s.data.toList n = R := ⟨_, rfl⟩
  rw [hR]
  obtain ⟨w1, hw1⟩ : ∃ w1, w.alloc (.cells #[.slice none 0 0, .string ⟨#[]⟩, .string ⟨#[]⟩, .slice none 0 0, .string ⟨#[]⟩, .slice none 0 0] 29) = w1 := ⟨_, rfl⟩
  have b1 : Below w.heap.size w w1 := by rw [← hw1]; exact (Below.refl _ _).alloc (Nat.le_refl _) _
  have z1 : w1.heap.size = w.heap.size + 1 := by rw [← hw1]; simp
  have p1 : PrtAt w1 w.heap.size (.slice none 0 0) (.string ⟨#[]⟩) (.string ⟨#[]⟩) (.slice none 0 0) (.string ⟨#[]⟩) (.slice none 0 0) := by rw [← hw1]; exact prt_new w _ _ _ _ _ _
  have k1 : RdOk Cb Rb m n w1 := hk.take (.of b1) (boxed_below hk.c b1)
  have hCb := hk.c.lt
  have hRb := hk.r.lt
  have c1 := k1.c.cell
  have hstep : ∃ sub, partM d = stepM sub ∧ (d = 0 → sub = none) ∧ ∀ d', d = d' + 1 → sub = some (partM d') := by
    match d with
    | 0 => exact ⟨none, rfl, fun _ => rfl, fun d' h => by cases h⟩
    | d + 1 => exact ⟨some (partM d), rfl, (fun h => by cases h), fun d' h => by cases h; rfl⟩
  obtain ⟨sub, hsub, hsub0, hsub1⟩ := hstep
  rw [hsub, step_one] at hR
  have hCn : Cb ≠ w.heap.size := by omega
  by_cases h16 : 16 ≤ n
  · rw [if_pos h16] at hR
    obtain rfl : n = 16 := by omega
    have HR := Lib.hid hR
    obtain ⟨y0, y1, y2, y3, y4, y5, v0, v1, v2, v3, v4, v5⟩ := p1.cells
    have pk := (p1.put (.slice none 0 0) (.string ⟨#[]⟩) (.string ⟨#[]⟩) (.slice none 0 0) (.string ⟨#[]⟩) (.slice none 0 0)).cells
    unfold putP at pk
    obtain ⟨k0, k2, k3, k4, k5, k6, _⟩ := pk
    have Fin : Hid (ReadPost R Cb w (.returned (.tuple #[.agg #[.slice none 0 0, .string ⟨#[]⟩, .string ⟨#[]⟩, .slice none 0 0, .string ⟨#[]⟩, .slice none 0 0], .int .i64 3])) (putP w1 w.heap.size (.slice none 0 0) (.string ⟨#[]⟩) (.string ⟨#[]⟩) (.slice none 0 0) (.string ⟨#[]⟩) (.slice none 0 0))) := Lib.hid (by
      rw [← hR]
      exact ⟨take_putP (.of b1) (Nat.le_refl _) (.slice none 0 0) (.string ⟨#[]⟩) (.string ⟨#[]⟩) (.slice none 0 0) (.string ⟨#[]⟩) (.slice none 0 0), (putP_block hCn (.slice none 0 0) (.string ⟨#[]⟩) (.string ⟨#[]⟩) (.slice none 0 0) (.string ⟨#[]⟩) (.slice none 0 0)).trans k1.c, .slice none 0 0, .slice none 0 0, .slice none 0 0, rfl, TreeP.nil _ _⟩)
    clear hR hsub hsub0 hsub1 ih hk k1 p1 b1
    go_enter Tryz.func14, Tryz.ntmps14
    go_wp2
    refine bodyPost_ret (v := .tuple #[.agg #[.slice none 0 0, .string ⟨#[]⟩, .string ⟨#[]⟩, .slice none 0 0, .string ⟨#[]⟩, .slice none 0 0], .int .i64 3]) (by simp [results, Tryz.f14, go_sem, k0, k2, k3, k4, k5, k6]) rfl Fin.out
  · rw [if_neg h16] at hR
    obtain ⟨w2, hw2⟩ : ∃ w2, w1.setCell ⟨Cb, 0, none⟩ (.int .i64 ((n : Int) + 1)) = w2 := ⟨_, rfl⟩
    have t2 : TakeK Cb w.heap.size w w2 := by rw [← hw2]; exact (TakeK.of b1).set _
    have z2 : w2.heap.size = w.heap.size + 1 := by rw [← hw2, ← z1]; simp [World.setCell]
    have p2 : PrtAt w2 w.heap.size (.slice none 0 0) (.string ⟨#[]⟩) (.string ⟨#[]⟩) (.slice none 0 0) (.string ⟨#[]⟩) (.slice none 0 0) := by
      rw [← hw2]
      exact (Below.heap_setCell w1 ⟨Cb, 0, none⟩ _ _ (fun e => hCn e.symm)).trans p1
    have k2 : RdOk Cb Rb m (n + 1) w2 := hk.take t2 (by
      rw [← hw2]
      exact k1.c.set _)
    have hone := mreadone_any s m w2 hs k2.m
    have K2 := Lib.hid (And.intro (And.intro t2 p2) k2)
    have v1 := Lib.frozen_of_heap k1.c 0
    clear b1 p1 k1 t2 p2 k2
    cases hq : oneM s.data.toList with
    | bad c =>
      rw [hq] at hone hR
      have hc0 := one_bad hq
      have hcc : ((c : Int) != 0) = true := by simpa using hc0
      have hone2 : Calls Tryz.prog 15 #[.string s] w2 fun e w' => (∃ a1 n1 q1 X Y a2 n2 q2 D a3 n3 q3, e = .returned (.tuple #[.agg #[.slice a1 n1 q1, .string X, .string Y, .slice a2 n2 q2, .string D, .slice a3 n3 q3], .slice none 0 0, .int .i64 c])) ∧ Below w2.heap.size w2 w' := hone.mono fun e w' ⟨h1, h2⟩ => ⟨⟨_, _, _, _, _, _, _, _, _, _, _, _, h2⟩, h1⟩
      have HR := Lib.hid hR
      clear hR hsub hsub0 hsub1 ih hk hone hq hc0
      go_enter Tryz.func14, Tryz.ntmps14
      go_wp2_with fail
      refine hone2.mono ?_
      rintro e w3 ⟨⟨a1, n1, q1, X, Y, a2, n2, q2, D, a3, n3, q3, rfl⟩, hb⟩
      obtain ⟨w4, hw4⟩ : ∃ w4, w3.alloc (.cells #[.slice a1 n1 q1, .string X, .string Y, .slice a2 n2 q2, .string D, .slice a3 n3 q3] 29) = w4 := ⟨_, rfl⟩
      have b4 : Below w2.heap.size w2 w4 := by rw [← hw4]; exact hb.alloc hb.size _
      have p4 := K2.out.1.2.below b4
      have t4 : TakeK Cb w.heap.size w w4 := K2.out.1.1.trans (TakeK.of (b4.mono (by omega)))
      have hC4 := boxed_below K2.out.2.c b4
      obtain ⟨y0, y1, y2, y3, y4, y5, u0, u1, u2, u3, u4, u5⟩ := p4.cells
      have pk := (p4.put (.slice none 0 0) (.string ⟨#[]⟩) (.string ⟨#[]⟩) (.slice none 0 0) (.string ⟨#[]⟩) (.slice none 0 0)).cells
      unfold putP at pk
      obtain ⟨k0, k2, k3, k4, k5, k6, _⟩ := pk
      have Fin : Hid (ReadPost R Cb w (.returned (.tuple #[.agg #[.slice none 0 0, .string ⟨#[]⟩, .string ⟨#[]⟩, .slice none 0 0, .string ⟨#[]⟩, .slice none 0 0], .int .i64 c])) (putP w4 w.heap.size (.slice none 0 0) (.string ⟨#[]⟩) (.string ⟨#[]⟩) (.slice none 0 0) (.string ⟨#[]⟩) (.slice none 0 0))) := Lib.hid (by
        rw [← HR.out]
        exact ⟨take_putP t4 (Nat.le_refl _) (.slice none 0 0) (.string ⟨#[]⟩) (.string ⟨#[]⟩) (.slice none 0 0) (.string ⟨#[]⟩) (.slice none 0 0), (putP_block hCn (.slice none 0 0) (.string ⟨#[]⟩) (.string ⟨#[]⟩) (.slice none 0 0) (.string ⟨#[]⟩) (.slice none 0 0)).trans hC4, .slice none 0 0, .slice none 0 0, .slice none 0 0, rfl, TreeP.nil _ _⟩)
      clear hone2 hb b4 p4 t4 hC4 K2
      go_wp2
      refine bodyPost_ret (v := .tuple #[.agg #[.slice none 0 0, .string ⟨#[]⟩, .string ⟨#[]⟩, .slice none 0 0, .string ⟨#[]⟩, .slice none 0 0], .int .i64 c]) (by simp [results, Tryz.f14, go_sem, k0, k2, k3, k4, k5, k6]) rfl Fin.out
    | leaf p =>
      rw [hq] at hone hR
      have hpp : p.parts = [] := one_leaf hq
      obtain ⟨X, hX⟩ : ∃ X, textQ p.typ.1 = X := ⟨_, rfl⟩
      obtain ⟨Y, hY⟩ : ∃ Y, textQ p.typ.2.1 = Y := ⟨_, rfl⟩
      obtain ⟨D, hD⟩ : ∃ D, textQ p.body = D := ⟨_, rfl⟩
      have hone2 : Calls Tryz.prog 15 #[.string s] w2 fun e w' => ∃ a1 n1 c1 a2 n2 c2 a3 n3 c3, e = .returned (.tuple #[.agg #[.slice a1 n1 c1, .string X, .string Y, .slice a2 n2 c2, .string D, .slice a3 n3 c3], .slice none 0 0, .int .i64 0]) ∧ Hid ((a3 = none ∧ n3 = 0 ∧ c3 = 0) ∧ Below w2.heap.size w2 w' ∧ FieldsP w' (fun g => w2.heap.size ≤ g) (.slice a1 n1 c1) p.fields ∧ ParsP w' (fun g => w2.heap.size ≤ g) (.slice a2 n2 c2) p.typ.2.2) := hone.mono fun e w' ⟨h1, fv, pv, h2, h3, h4⟩ => by
        obtain ⟨a1, c1, rfl, _⟩ := h3.slice
        obtain ⟨a2, c2, rfl, _⟩ := h4.slice
        exact ⟨_, _, _, _, _, _, none, 0, 0, by rw [h2, ← hX, ← hY, ← hD]; rfl, Lib.hid ⟨⟨rfl, rfl, rfl⟩, h1, h3, h4⟩⟩
      have HR := Lib.hid hR
      have HX := Lib.hid (And.intro hX (And.intro hY (And.intro hD hpp)))
      clear hR hsub hsub0 hsub1 ih hk hone hq hX hY hD hpp
      go_enter Tryz.func14, Tryz.ntmps14
      go_wp2_with fail
      refine hone2.mono ?_
      rintro e w3 ⟨a1, n1, q1, a2, n2, q2, a3, n3, q3, rfl, hx⟩
      obtain ⟨w4, hw4⟩ : ∃ w4, w3.alloc (.cells #[.slice a1 n1 q1, .string X, .string Y, .slice a2 n2 q2, .string D, .slice a3 n3 q3] 29) = w4 := ⟨_, rfl⟩
      have b34 : Below w3.heap.size w3 w4 := by rw [← hw4]; exact (Below.refl _ _).alloc (Nat.le_refl _) _
      have b4 : Below w2.heap.size w2 w4 := hx.out.2.1.trans (b34.mono hx.out.2.1.size)
      have p4 := K2.out.1.2.below b4
      have pp4 : PrtAt w4 w3.heap.size (.slice a1 n1 q1) (.string X) (.string Y) (.slice a2 n2 q2) (.string D) (.slice a3 n3 q3) := by rw [← hw4]; exact prt_new w3 _ _ _ _ _ _
      have t4 : TakeK Cb w.heap.size w w4 := K2.out.1.1.trans (TakeK.of (b4.mono (by omega)))
      have hC4 := boxed_below K2.out.2.c b4
      obtain ⟨y0, y1, y2, y3, y4, y5, u0, u1, u2, u3, u4, u5⟩ := p4.cells
      obtain ⟨x0, x1, x2, x3, x4, x5, _⟩ := pp4.cells
      have pk := (p4.put (.slice a1 n1 q1) (.string X) (.string Y) (.slice a2 n2 q2) (.string D) (.slice a3 n3 q3)).cells
      unfold putP at pk
      obtain ⟨k0, k2, k3, k4, k5, k6, _⟩ := pk
      have Fin : Hid (ReadPost R Cb w (.returned (.tuple #[.agg #[.slice a1 n1 q1, .string X, .string Y, .slice a2 n2 q2, .string D, .slice a3 n3 q3], .int .i64 0])) (putP w4 w.heap.size (.slice a1 n1 q1) (.string X) (.string Y) (.slice a2 n2 q2) (.string D) (.slice a3 n3 q3))) := Lib.hid (by
        rw [← HR.out]
        refine ⟨take_putP t4 (Nat.le_refl _) (.slice a1 n1 q1) (.string X) (.string Y) (.slice a2 n2 q2) (.string D) (.slice a3 n3 q3), (putP_block hCn (.slice a1 n1 q1) (.string X) (.string Y) (.slice a2 n2 q2) (.string D) (.slice a3 n3 q3)).trans hC4, .slice a1 n1 q1, .slice a2 n2 q2, .slice a3 n3 q3, by rw [← HX.out.1, ← HX.out.2.1, ← HX.out.2.2.1]; rfl, ?_⟩
        have hs : StayP w3 (fun g => w2.heap.size ≤ g) (putP w4 w.heap.size (.slice a1 n1 q1) (.string X) (.string Y) (.slice a2 n2 q2) (.string D) (.slice a3 n3 q3)) (fun g => w.heap.size ≤ g) := fun g hg hl => ⟨by omega, fun jj => (cell_block (putP_block (by omega) (.slice a1 n1 q1) (.string X) (.string Y) (.slice a2 n2 q2) (.string D) (.slice a3 n3 q3))).trans (b34.cell (p := ⟨g, jj, none⟩) hl)⟩
        exact ⟨hx.out.2.2.1.to hs, hx.out.2.2.2.to hs, by obtain ⟨⟨g1, g2, g3⟩, _⟩ := hx.out; rw [HX.out.2.2.2, g1, g2, g3]; exact PartsP.nil _ _⟩)
      clear hone2 hx b34 b4 p4 pp4 t4 hC4 K2
      go_wp2
      go_loopw [40] (fun iv wr => iv = .int .i64 0 ∧ wr = w4) (fun _ _ => 0)
      case atStart => exact ⟨rfl, rfl⟩
      case round =>
        obtain ⟨rfl, hwr⟩ := hrel
        obtain rfl := hwr.symm
        clear hwr
        go_wp2
        refine bodyPost_ret (v := .tuple #[.agg #[.slice a1 n1 q1, .string X, .string Y, .slice a2 n2 q2, .string D, .slice a3 n3 q3], .int .i64 0]) (by simp [results, Tryz.f14, go_sem, k0, k2, k3, k4, k5, k6]) rfl Fin.out
    | multi p l =>
      rw [hq] at hone hR
      obtain ⟨hl0, hpp, hpb, hll⟩ := one_multi hq
      obtain ⟨X, hX⟩ : ∃ X, textQ p.typ.1 = X := ⟨_, rfl⟩
      obtain ⟨Y, hY⟩ : ∃ Y, textQ p.typ.2.1 = Y := ⟨_, rfl⟩
      obtain ⟨D, hD⟩ : ∃ D, textQ p.body = D := ⟨_, rfl⟩
      obtain ⟨nl, hnl⟩ : ∃ nl, l.length = nl := ⟨_, rfl⟩
      have hnl0 : 0 < nl := by rw [← hnl]; exact List.length_pos_iff.2 hl0
      have hone2 : Calls Tryz.prog 15 #[.string s] w2 fun e w' => ∃ a1 n1 c1 a2 n2 c2 a3 n3 c3 b k, e = .returned (.tuple #[.agg #[.slice a1 n1 c1, .string X, .string Y, .slice a2 n2 c2, .string D, .slice a3 n3 c3], .slice (some ⟨b, 0, none⟩) nl k, .int .i64 0]) ∧ k ≤ maxLen ∧ nl ≤ k ∧ Hid ((a3 = none ∧ n3 = 0 ∧ c3 = 0) ∧ Below w2.heap.size w2 w' ∧ FieldsP w' (fun g => w2.heap.size ≤ g) (.slice a1 n1 c1) p.fields ∧ ParsP w' (fun g => w2.heap.size ≤ g) (.slice a2 n2 c2) p.typ.2.2 ∧ (w2.heap.size ≤ b ∧ b < w'.heap.size) ∧ ∀ i (h : i < l.length), w'.cell? ⟨b, i, none⟩ = some (.string (textQ l[i]))) := hone.mono fun e w' ⟨h1, fv, pv, b, k, h2, h3, h4, h5, h6, h7, h8⟩ => by
        obtain ⟨a1, c1, rfl, _⟩ := h3.slice
        obtain ⟨a2, c2, rfl, _⟩ := h4.slice
        exact ⟨_, _, _, _, _, _, none, 0, 0, b, k, by rw [h2, ← hX, ← hY, ← hD, ← hnl]; rfl, h6, by omega, Lib.hid ⟨⟨rfl, rfl, rfl⟩, h1, h3, h4, h7, h8⟩⟩
      have HX := Lib.hid (And.intro hX (And.intro hY (And.intro hD hpp)))
      have HL := Lib.hid (And.intro hnl (And.intro hpb hll))
      clear hone hq hX hY hD hpp hl0 hnl hpb hll
      match d, hd, ih, hsub, hsub0, hsub1 with
      | 0, hd, _, _, hsub0, _ =>
        rw [hsub0 rfl] at hR
        have HR : Hid (R = (nilM, n + 1, 10)) := Lib.hid hR.symm
        obtain rfl : j = 4 := by omega
        clear hR hsub0 hd hk
        go_enter Tryz.func14, Tryz.ntmps14
        go_wp2_with fail
        refine hone2.mono ?_
        rintro e w3 ⟨a1, n1, q1, a2, n2, q2, a3, n3, q3, b, k, rfl, hkm, hnk, hx⟩
        unfold maxLen at hkm
        obtain ⟨w4, hw4⟩ : ∃ w4, w3.alloc (.cells #[.slice a1 n1 q1, .string X, .string Y, .slice a2 n2 q2, .string D, .slice a3 n3 q3] 29) = w4 := ⟨_, rfl⟩
        have b34 : Below w3.heap.size w3 w4 := by rw [← hw4]; exact (Below.refl _ _).alloc (Nat.le_refl _) _
        have b4 : Below w2.heap.size w2 w4 := hx.out.2.1.trans (b34.mono hx.out.2.1.size)
        have p4 := K2.out.1.2.below b4
        have t4 : TakeK Cb w.heap.size w w4 := K2.out.1.1.trans (TakeK.of (b4.mono (by omega)))
        have hC4 := boxed_below K2.out.2.c b4
        obtain ⟨y0, y1, y2, y3, y4, y5, u0, u1, u2, u3, u4, u5⟩ := p4.cells
        have pk := (p4.put (.slice none 0 0) (.string ⟨#[]⟩) (.string ⟨#[]⟩) (.slice none 0 0) (.string ⟨#[]⟩) (.slice none 0 0)).cells
        unfold putP at pk
        obtain ⟨k0, k2, k3, k4, k5, k6, _⟩ := pk
        have Fin : Hid (ReadPost R Cb w (.returned (.tuple #[.agg #[.slice none 0 0, .string ⟨#[]⟩, .string ⟨#[]⟩, .slice none 0 0, .string ⟨#[]⟩, .slice none 0 0], .int .i64 10])) (putP w4 w.heap.size (.slice none 0 0) (.string ⟨#[]⟩) (.string ⟨#[]⟩) (.slice none 0 0) (.string ⟨#[]⟩) (.slice none 0 0))) := Lib.hid (by
          rw [HR.out]
          exact ⟨take_putP t4 (Nat.le_refl _) (.slice none 0 0) (.string ⟨#[]⟩) (.string ⟨#[]⟩) (.slice none 0 0) (.string ⟨#[]⟩) (.slice none 0 0), (putP_block hCn (.slice none 0 0) (.string ⟨#[]⟩) (.string ⟨#[]⟩) (.slice none 0 0) (.string ⟨#[]⟩) (.slice none 0 0)).trans hC4, .slice none 0 0, .slice none 0 0, .slice none 0 0, rfl, TreeP.nil _ _⟩)
        clear hone2 hx b34 b4 p4 t4 hC4 K2
        go_wp2
        refine bodyPost_ret (v := .tuple #[.agg #[.slice none 0 0, .string ⟨#[]⟩, .string ⟨#[]⟩, .slice none 0 0, .string ⟨#[]⟩, .slice none 0 0], .int .i64 10]) (by simp [results, Tryz.f14, go_sem, k0, k2, k3, k4, k5, k6]) rfl Fin.out
      | d + 1, hd, ih, _, _, hsub1 =>
        rw [hsub1 d rfl] at hR
        have hj4 : (j : Int) < 4 := by omega
        have HBad : Hid (∀ i (hi : i < l.length) ps c, allM (partM d) (l.take i) (n + 1) = (ps, c, 0) → (partM d l[i] c).2.2 ≠ 0 → R = (nilM, (partM d l[i] c).2)) := Lib.hid fun i hi ps c h1 h2 => by
          have e := all_bad h1 hi h2
          rw [← hR]
          simp only
          rw [if_neg (by rw [e]; exact h2), e]
        have HEnd : Hid (∀ ps c, allM (partM d) (l.take l.length) (n + 1) = (ps, c, 0) → R = (.mk p.fields p.typ p.body ps, c, 0)) := Lib.hid fun ps c h1 => by
          rw [List.take_length] at h1
          rw [← hR]
          simp only
          rw [h1, if_pos rfl]
        have IH := Lib.hid (ih d rfl)
        have er := enter_reader
        clear hR hsub1 ih hd
        go_enter Tryz.func14, Tryz.ntmps14
        go_wp2_with fail
        refine hone2.mono ?_
        rintro e w3 ⟨a1, n1, q1, a2, n2, q2, a3, n3, q3, bT, k, rfl, hkm, hnk, hx⟩
        unfold maxLen at hkm
        obtain ⟨w4, hw4⟩ : ∃ w4, w3.alloc (.cells #[.slice a1 n1 q1, .string X, .string Y, .slice a2 n2 q2, .string D, .slice a3 n3 q3] 29) = w4 := ⟨_, rfl⟩
        have L4 : Hid (RdLoop Cb Rb m w w2.heap.size w3.heap.size w4.heap.size bT (.slice a1 n1 q1) (.string X) (.string Y) (.slice a2 n2 q2) (.string D) (.slice a3 n3 q3) p l [] (n + 1) w4) := Lib.hid (by
          obtain ⟨⟨g1, g2, g3⟩, o1, o2, o3, o4, o5⟩ := hx.out
          subst g1 g2 g3
          have b34 : Below w3.heap.size w3 w4 := by rw [← hw4]; exact (Below.refl _ _).alloc (Nat.le_refl _) _
          have z34 : w4.heap.size = w3.heap.size + 1 := by rw [← hw4]; simp
          have b4 : Below w2.heap.size w2 w4 := o1.trans (b34.mono o1.size)
          have hz := o1.size
          have hml := cell_ltP hk.m
          have hcl := hk.c.lt
          have hrl := hk.r.lt
          exact ⟨⟨by omega, by omega, by omega, by omega, by omega, by omega⟩, ⟨by omega, by omega, o4.1, by omega, by omega⟩, K2.out.1.1.trans (TakeK.of (b4.mono (by omega))), K2.out.2.take (.of b4) (boxed_below K2.out.2.c b4), K2.out.1.2.below b4, by rw [← hw4]; exact prt_new w3 _ _ _ _ _ _,
            o2.to fun g hg hl => ⟨⟨hg, hl⟩, fun jj => b34.cell (p := ⟨g, jj, none⟩) hl⟩, o3.to fun g hg hl => ⟨⟨hg, hl⟩, fun jj => b34.cell (p := ⟨g, jj, none⟩) hl⟩, World.ownsRow_nil _ _ _ _, kids_nil _ _, fun i h => (b34.cell (p := ⟨bT, i, none⟩) o4.2).trans (o5 i h)⟩)
        clear hone2 hx K2 hk
        go_wp2
        go_loopw [40] (fun iv wr => ∃ (i cnt : Nat) (acc : List KidM) (ao : Option Addr) (nn cap : Nat), i ≤ nl ∧ i ≤ cnt ∧ iv = .int .i64 i ∧ acc.length = i ∧ cnt ≤ 16 ∧ Hid (allM (partM d) (l.take i) (n + 1) = (acc.map (·.1), cnt, 0)) ∧ Hid (RdLoop Cb Rb m w w2.heap.size w3.heap.size w4.heap.size bT (.slice a1 n1 q1) (.string X) (.string Y) (.slice a2 n2 q2) (.string D) (.slice ao nn cap) p l acc cnt wr)) (fun iv _ => nl - (intOf iv).toNat)
        case atStart => exact ⟨0, n + 1, [], a3, n3, q3, by omega, by omega, rfl, rfl, by omega, Lib.hid rfl, L4⟩
        case round =>
          obtain ⟨i, cnt, acc, ao, nn, cap, hi, hic, rfl, hacc, hcnt, hall, hlp⟩ := hrel
          clear L4
          have hacc2 := Lib.hid hacc
          clear hacc
          by_cases hlt : i < nl
          · have hil : i < l.length := by rw [HL.out.1]; exact hlt
            have z0 := hlp.out.tx i hil
            have z1 := hlp.out.ok.r.cell
            unfold readerV at z1
            have hcall := IH.out (textQ l[i]) cnt wr (by
              have := HL.out.2.2 _ (List.getElem_mem hil)
              show l[i].length ≤ _
              have e : s.data.toList.length = s.size := rfl
              omega) hcnt hlp.out.ok
            rw [show (textQ l[i]).data.toList = l[i] from rfl] at hcall
            have hbad := Lib.hid (fun h => HBad.out i hil _ _ hall.out h)
            have hnx := Lib.hid (fun h => all_next hall.out hil h)
            have hle := part_le d l[i] cnt hcnt
            have hgt := Lib.hid (fun q m => part_good d l[i] cnt q m)
            obtain ⟨ti, hti⟩ : ∃ ti, l[i] = ti := ⟨_, rfl⟩
            rw [hti] at z0 hcall hbad hnx hle hgt
            obtain ⟨T, hT⟩ : ∃ T, textQ ti = T := ⟨_, rfl⟩
            rw [hT] at z0 hcall
            clear hT hti hil hall
            obtain ⟨r, hr⟩ : ∃ r, partM d ti cnt = r := ⟨_, rfl⟩
            rw [hr] at hcall hbad hnx hle hgt
            clear hr
            obtain ⟨q, c2, er2⟩ := r
            by_cases he : er2 = 0
            · subst he
              have hnx2 := Lib.hid (hnx.out rfl)
              have hc2 := (hgt.out q c2 rfl).1
              have hB0 := hlp.out.k2.2.2.2.2
              obtain ⟨QX, hQX⟩ : ∃ QX, textQ q.typ.1 = QX := ⟨_, rfl⟩
              obtain ⟨QY, hQY⟩ : ∃ QY, textQ q.typ.2.1 = QY := ⟨_, rfl⟩
              obtain ⟨QD, hQD⟩ : ∃ QD, textQ q.body = QD := ⟨_, rfl⟩
              have hcall2 : Calls Tryz.prog 14 #[.string T, .int .i64 ((j : Int) + 1), .pointer (some ⟨Cb, 0, none⟩), .pointer (some ⟨Rb, 0, none⟩)] wr fun e w' => ∃ a5 n5 q5 a6 n6 q6 a7 n7 q7, e = .returned (.tuple #[.agg #[.slice a5 n5 q5, .string QX, .string QY, .slice a6 n6 q6, .string QD, .slice a7 n7 q7], .int .i64 0]) ∧ Hid (RdLoop Cb Rb m w w2.heap.size w3.heap.size w4.heap.size bT (.slice a1 n1 q1) (.string X) (.string Y) (.slice a2 n2 q2) (.string D) (.slice ao nn cap) p l acc c2 w' ∧ TreeP w' (fun g => wr.heap.size ≤ g) q (.slice a5 n5 q5) (.slice a6 n6 q6) (.slice a7 n7 q7)) := hcall.mono fun e w' ⟨h1, h2, fv, pv, rv, h3, h4⟩ => by
                obtain ⟨⟨a5, n5, q5, rfl⟩, ⟨a6, n6, q6, rfl⟩, ⟨a7, n7, q7, rfl⟩⟩ := h4.slices
                exact ⟨_, _, _, _, _, _, _, _, _, by rw [h3, ← hQX, ← hQY, ← hQD]; rfl, Lib.hid ⟨hlp.out.call h1 h2, h4⟩⟩
              have HQ := Lib.hid (And.intro hQX (And.intro hQY hQD))
              have hown : Hid (∀ g, (Value.slice ao nn cap).ownBlock = some g → g < wr.heap.size) := Lib.hid fun g h => (hlp.out.own.lt g h).2
              clear hcall hbad hnx hlp hQX hQY hQD hgt
              go_wp2_with (go_at_fn 14
                           refine hcall2.mono ?_
                           rintro e w5 ⟨a5, n5, q5, a6, n6, q6, a7, n7, q7, rfl, hx⟩
                           obtain ⟨w6, hw6⟩ : ∃ w6, w5.alloc (.cells #[.slice a5 n5 q5, .string QX, .string QY, .slice a6 n6 q6, .string QD, .slice a7 n7 q7] 29) = w6 := ⟨_, rfl⟩
                           have b56 : Below w5.heap.size w5 w6 := by rw [← hw6]; exact (Below.refl _ _).alloc (Nat.le_refl _) _
                           obtain ⟨w7, hw7⟩ : ∃ w7, w6.alloc (.cells #[.slice a5 n5 q5, .string QX, .string QY, .slice a6 n6 q6, .string QD, .slice a7 n7 q7] 29) = w7 := ⟨_, rfl⟩
                           have b67 : Below w6.heap.size w6 w7 := by rw [← hw7]; exact (Below.refl _ _).alloc (Nat.le_refl _) _
                           have b57 : Below w5.heap.size w5 w7 := b56.trans (b67.mono b56.size)
                           have L6 := Lib.hid (hx.out.1.below b56)
                           have L7 := Lib.hid (hx.out.1.below b57)
                           have pn6 : PrtAt w6 w5.heap.size (.slice a5 n5 q5) (.string QX) (.string QY) (.slice a6 n6 q6) (.string QD) (.slice a7 n7 q7) := by rw [← hw6]; exact prt_new w5 _ _ _ _ _ _
                           have pn7 : PrtAt w7 w6.heap.size (.slice a5 n5 q5) (.string QX) (.string QY) (.slice a6 n6 q6) (.string QD) (.slice a7 n7 q7) := by rw [← hw7]; exact prt_new w6 _ _ _ _ _ _
                           have X7 := Lib.hid (And.intro (hx.out.2.to (stay_all b57)) pn7)
                           obtain ⟨g0, g1, g2, g3, g4, g5, _⟩ := L6.out.p8.cells
                           obtain ⟨h0, h1, h2, h3, h4, h5, _⟩ := pn6.cells
                           clear hx b56 b67 b57 pn6 pn7
                           refine HeldW.of ?_)
              unfold HeldW
              go_wp2_with (at_builtin; refine HeldW.of ?_)
              unfold HeldW
              have hkid := prt_kid X7.out.2 HQ.out.1 HQ.out.2.1 HQ.out.2.2
              have hal : acc.length ≤ 1000000 := by have := hacc2.out; have hle : c2 ≤ 16 := hle; omega
              refine append_part rfl _ _ rfl w4.heap.size (.slice ao nn cap) acc (q, .slice a5 n5 q5, .slice a6 n6 q6, .slice a7 n7 q7) rfl L7.out.own L7.out.k2.2.2.2.2 hal w6.heap.size 1 rfl hkid rfl rfl rfl ?_
              intro v' w8 ho hg hv
              obtain ⟨ao', cap', rfl⟩ := row_slice ho
              have A8 := Lib.hid (L7.out.app (x := (q, .slice a5 n5 q5, .slice a6 n6 q6, .slice a7 n7 q7)) (X7.out.1.to (stay_self fun g hg _ => ⟨by omega, fun e => by have := hown.out g e; omega⟩)) ho hg hv)
              obtain ⟨m0, m1, m2, m3, m4, m5, f0, f1, f2, f3, f4, f5⟩ := A8.out.1.cells
              rw [show (acc ++ [(q, Value.slice a5 n5 q5, Value.slice a6 n6 q6, Value.slice a7 n7 q7)]).length = acc.length + 1 by simp] at A8
              clear L6 L7 X7 ho hg hv g0 g1 g2 g3 g4 g5 h0 h1 h2 h3 h4 h5
              go_wp2
              go_roundw
              case rel => exact ⟨i + 1, c2, acc ++ [(q, Value.slice a5 n5 q5, Value.slice a6 n6 q6, Value.slice a7 n7 q7)], ao', acc.length + 1, cap', by omega, by omega, by go_num, by have := hacc2.out; simp; omega, hle, Lib.hid (by rw [List.map_append]; exact hnx2.out), Lib.hid A8.out.2⟩
              case measure => simp [intOf] <;> omega
            · have hee : ((er2 : Int) != 0) = true := by simpa using he
              have HR := Lib.hid (hbad.out he)
              have hcall2 : Calls Tryz.prog 14 #[.string T, .int .i64 ((j : Int) + 1), .pointer (some ⟨Cb, 0, none⟩), .pointer (some ⟨Rb, 0, none⟩)] wr fun e w' => ∃ a5 n5 q5 QX QY a6 n6 q6 QD a7 n7 q7, e = .returned (.tuple #[.agg #[.slice a5 n5 q5, .string QX, .string QY, .slice a6 n6 q6, .string QD, .slice a7 n7 q7], .int .i64 er2]) ∧ Hid (RdLoop Cb Rb m w w2.heap.size w3.heap.size w4.heap.size bT (.slice a1 n1 q1) (.string X) (.string Y) (.slice a2 n2 q2) (.string D) (.slice ao nn cap) p l acc c2 w') := hcall.mono fun e w' ⟨h1, h2, fv, pv, rv, h3, h4⟩ => by
                obtain ⟨⟨a5, n5, q5, rfl⟩, ⟨a6, n6, q6, rfl⟩, ⟨a7, n7, q7, rfl⟩⟩ := h4.slices
                exact ⟨_, _, _, _, _, _, _, _, _, _, _, _, h3, Lib.hid (hlp.out.call h1 h2)⟩
              clear hcall hbad hnx hlp hgt he hle
              go_wp2_with (go_at_fn 14
                           refine hcall2.mono ?_
                           rintro e w5 ⟨a5, n5, q5, QX, QY, a6, n6, q6, QD, a7, n7, q7, rfl, hx⟩
                           obtain ⟨w6, hw6⟩ : ∃ w6, w5.alloc (.cells #[.slice a5 n5 q5, .string QX, .string QY, .slice a6 n6 q6, .string QD, .slice a7 n7 q7] 29) = w6 := ⟨_, rfl⟩
                           have b56 : Below w5.heap.size w5 w6 := by rw [← hw6]; exact (Below.refl _ _).alloc (Nat.le_refl _) _
                           have L6 := Lib.hid (hx.out.below b56)
                           obtain ⟨y0, y1, y2, y3, y4, y5, u0, u1, u2, u3, u4, u5⟩ := L6.out.p6.cells
                           have pk := (L6.out.p6.put (.slice none 0 0) (.string ⟨#[]⟩) (.string ⟨#[]⟩) (.slice none 0 0) (.string ⟨#[]⟩) (.slice none 0 0)).cells
                           unfold putP at pk
                           obtain ⟨k0, k2, k3, k4, k5, k6, _⟩ := pk
                           clear hx b56)
              have Fin : Hid (ReadPost R Cb w (.returned (.tuple #[.agg #[.slice none 0 0, .string ⟨#[]⟩, .string ⟨#[]⟩, .slice none 0 0, .string ⟨#[]⟩, .slice none 0 0], .int .i64 er2])) (putP w6 w.heap.size (.slice none 0 0) (.string ⟨#[]⟩) (.string ⟨#[]⟩) (.slice none 0 0) (.string ⟨#[]⟩) (.slice none 0 0))) := Lib.hid (by
                rw [HR.out]
                exact ⟨take_putP L6.out.t (Nat.le_refl _) (.slice none 0 0) (.string ⟨#[]⟩) (.string ⟨#[]⟩) (.slice none 0 0) (.string ⟨#[]⟩) (.slice none 0 0), (putP_block hCn (.slice none 0 0) (.string ⟨#[]⟩) (.string ⟨#[]⟩) (.slice none 0 0) (.string ⟨#[]⟩) (.slice none 0 0)).trans L6.out.ok.c, .slice none 0 0, .slice none 0 0, .slice none 0 0, rfl, TreeP.nil _ _⟩)
              refine bodyPost_ret (v := .tuple #[.agg #[.slice none 0 0, .string ⟨#[]⟩, .string ⟨#[]⟩, .slice none 0 0, .string ⟨#[]⟩, .slice none 0 0], .int .i64 er2]) (by simp [results, Tryz.f14, go_sem, k0, k2, k3, k4, k5, k6]) rfl Fin.out
          · obtain rfl : i = nl := by omega
            have HR := Lib.hid (HEnd.out _ _ (by rw [HL.out.1]; exact hall.out))
            obtain ⟨y0, y1, y2, y3, y4, y5, u0, u1, u2, u3, u4, u5⟩ := hlp.out.p6.cells
            obtain ⟨x0, x1, x2, x3, x4, x5, _⟩ := hlp.out.p8.cells
            have pk := (hlp.out.p6.put (.slice a1 n1 q1) (.string X) (.string Y) (.slice a2 n2 q2) (.string D) (.slice ao nn cap)).cells
            unfold putP at pk
            obtain ⟨k0, k2, k3, k4, k5, k6, _⟩ := pk
            have Fin : Hid (ReadPost R Cb w (.returned (.tuple #[.agg #[.slice a1 n1 q1, .string X, .string Y, .slice a2 n2 q2, .string D, .slice ao nn cap], .int .i64 0])) (putP wr w.heap.size (.slice a1 n1 q1) (.string X) (.string Y) (.slice a2 n2 q2) (.string D) (.slice ao nn cap))) := Lib.hid (by
              rw [HR.out]
              refine ⟨take_putP hlp.out.t (Nat.le_refl _) (.slice a1 n1 q1) (.string X) (.string Y) (.slice a2 n2 q2) (.string D) (.slice ao nn cap), (putP_block hCn (.slice a1 n1 q1) (.string X) (.string Y) (.slice a2 n2 q2) (.string D) (.slice ao nn cap)).trans hlp.out.ok.c, .slice a1 n1 q1, .slice a2 n2 q2, .slice ao nn cap, by rw [← HX.out.1, ← HX.out.2.1, ← HX.out.2.2.1]; rfl, ?_⟩
              have hk2 := hlp.out.k2
              have hk1 := hlp.out.k1
              refine ⟨hlp.out.ff.to fun g hg _ => ⟨by omega, fun jj => cell_block (putP_block (by omega) (.slice a1 n1 q1) (.string X) (.string Y) (.slice a2 n2 q2) (.string D) (.slice ao nn cap))⟩, hlp.out.pp.to fun g hg _ => ⟨by omega, fun jj => cell_block (putP_block (by omega) (.slice a1 n1 q1) (.string X) (.string Y) (.slice a2 n2 q2) (.string D) (.slice ao nn cap))⟩, ?_⟩
              have hps := hlp.out.own.parts (P := fun g => w4.heap.size ≤ g) (hlp.out.kids.to (stay_self fun g hg _ => hg.1)) (fun g h => h)
              exact hps.to fun g hg _ => ⟨by omega, fun jj => cell_block (putP_block (by omega) (.slice a1 n1 q1) (.string X) (.string Y) (.slice a2 n2 q2) (.string D) (.slice ao nn cap))⟩)
            clear hlp hall IH HBad HEnd
            go_wp2
            refine bodyPost_ret (v := .tuple #[.agg #[.slice a1 n1 q1, .string X, .string Y, .slice a2 n2 q2, .string D, .slice ao nn cap], .int .i64 0]) (by simp [results, Tryz.f14, go_sem, k0, k2, k3, k4, k5, k6]) rfl Fin.out
end Go.Proofs.YtjikghndoklajaaGreatDoor
