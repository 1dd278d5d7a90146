/-
  The document's answer of layer 13: Parse.
-/
import Derived.Test.YtidlpdiephlkhaaGreatDoorTR13P
import Derived.Test.YtidlpdiephlkhaaGreatDoorT32
namespace Go.Proofs.YtidlpdiephlkhaaGreatDoor
open Go.RowKit

theorem r13part_any : ∀ (d j : Nat), j + d = 4 → ∀ (s : ByteArray) (n : Nat) (w : World), s.size ≤ 90000 → n ≤ 16 → Calls Tryz.prog 32 #[.string s, .int .i64 (j : Int), .int .i64 (n : Int)] w (PartPost13 (partM d s.data.toList n) w)
  | 0, j, hj, s, n, w, hs, hn => r13part_step 0 j hj (fun d' h => by cases h) s n w hs hn
  | d + 1, j, hj, s, n, w, hs, hn => r13part_step (d + 1) j hj (fun d' h s n w h1 h2 => by
      cases h
      have := r13part_any d (j + 1) (by omega) s n w h1 h2
      rw [show (((j + 1 : Nat)) : Int) = (j : Int) + 1 by omega] at this
      exact this) s n w hs hn
set_option maxRecDepth 100000 in
set_option maxHeartbeats 8000000 in
theorem r13parse_any (s : ByteArray) (w : World) (hs : s.size ≤ 90000) : Calls Tryz.prog 12 #[.string s] w (ParsePostM s.data.toList w) := by
  obtain ⟨w1, hw1⟩ : ∃ w1, w.alloc (.cells #[.slice none 0 0, .string ⟨#[]⟩, .string ⟨#[]⟩, .slice none 0 0, .string ⟨#[]⟩, .slice none 0 0] 29) = w1 := ⟨_, rfl⟩
  have b1 : Below w.heap.size w w1 := by rw [← hw1]; exact (Below.refl _ _).alloc (Nat.le_refl _) _
  have z1 : w1.heap.size = w.heap.size + 1 := by rw [← hw1]; simp
  have p1 : PrtAt w1 w.heap.size (.slice none 0 0) (.string ⟨#[]⟩) (.string ⟨#[]⟩) (.slice none 0 0) (.string ⟨#[]⟩) (.slice none 0 0) := by rw [← hw1]; exact prt_new w _ _ _ _ _ _
  have hsl : s.data.toList.length = s.size := rfl
  by_cases h : 16384 < s.size
  · have e : parseM s.data.toList = (nilM, 3) := by unfold parseM; rw [if_pos (by omega)]
    obtain ⟨y0, y1, y2, y3, y4, y5, v0, v1, v2, v3, v4, v5⟩ := p1.cells
    have pk := (p1.put (.slice none 0 0) (.string ⟨#[]⟩) (.string ⟨#[]⟩) (.slice none 0 0) (.string ⟨#[]⟩) (.slice none 0 0)).cells
    unfold putP at pk
    obtain ⟨k0, k1, k2, k3, k4, k5, _⟩ := pk
    have Fin : Hid (ParsePostM s.data.toList w (.returned (.tuple #[.agg #[.slice none 0 0, .string ⟨#[]⟩, .string ⟨#[]⟩, .slice none 0 0, .string ⟨#[]⟩, .slice none 0 0], .int .i64 3])) (putP w1 w.heap.size (.slice none 0 0) (.string ⟨#[]⟩) (.string ⟨#[]⟩) (.slice none 0 0) (.string ⟨#[]⟩) (.slice none 0 0))) := Lib.hid (by
      unfold ParsePostM
      rw [e]
      exact ⟨.slice none 0 0, .slice none 0 0, .slice none 0 0, rfl, TreeP.nil _ _, below_putP b1 (Nat.le_refl _) (.slice none 0 0) (.string ⟨#[]⟩) (.string ⟨#[]⟩) (.slice none 0 0) (.string ⟨#[]⟩) (.slice none 0 0)⟩)
    clear e hsl b1 p1 z1
    have hI : (16384 : Int) < (s.size : Int) := by omega
    clear h hs
    go_enter Tryz.func12, Tryz.ntmps12
    go_wp2
    refine bodyPost_ret (v := .tuple #[.agg #[.slice none 0 0, .string ⟨#[]⟩, .string ⟨#[]⟩, .slice none 0 0, .string ⟨#[]⟩, .slice none 0 0], .int .i64 3]) (by simp [results, Tryz.f12, go_sem, k0, k1, k2, k3, k4, k5]) rfl Fin.out
  · have e : parseM s.data.toList = ((partM 4 s.data.toList 0).1, (partM 4 s.data.toList 0).2.2) := by unfold parseM; rw [if_neg (by omega)]
    have hrd := r13part_any 4 0 rfl s 0 w1 hs (by omega)
    obtain ⟨r, hr⟩ : ∃ r, partM 4 s.data.toList 0 = r := ⟨_, rfl⟩
    rw [hr] at hrd e
    obtain ⟨q, c2, er⟩ := r
    obtain ⟨QX, hQX⟩ : ∃ QX, textQ q.typ.1 = QX := ⟨_, rfl⟩
    obtain ⟨QY, hQY⟩ : ∃ QY, textQ q.typ.2.1 = QY := ⟨_, rfl⟩
    obtain ⟨QD, hQD⟩ : ∃ QD, textQ q.body = QD := ⟨_, rfl⟩
    have hrd2 : Calls Tryz.prog 32 #[.string s, .int .i64 0, .int .i64 0] w1 fun e w' => ∃ a5 n5 q5 a6 n6 q6 a7 n7 q7, e = .returned (.tuple #[.agg #[.slice a5 n5 q5, .string QX, .string QY, .slice a6 n6 q6, .string QD, .slice a7 n7 q7], .int .i64 (c2 : Int), .int .i64 er]) ∧ Hid (Below w1.heap.size w1 w' ∧ TreeP w' (fun g => w1.heap.size ≤ g) q (.slice a5 n5 q5) (.slice a6 n6 q6) (.slice a7 n7 q7)) := hrd.mono fun e w' ⟨fv, pv, rv, h1, h2, h3⟩ => by
      obtain ⟨⟨a5, n5, q5, rfl⟩, ⟨a6, n6, q6, rfl⟩, ⟨a7, n7, q7, rfl⟩⟩ := h2.slices
      exact ⟨_, _, _, _, _, _, _, _, _, by rw [h1, ← hQX, ← hQY, ← hQD]; rfl, Lib.hid ⟨h3, h2⟩⟩
    have HQ := Lib.hid (And.intro (And.intro hQX hQY) (And.intro hQD e))
    have B1 := Lib.hid (And.intro b1 (And.intro p1 z1))
    have hI : (s.size : Int) ≤ 16384 := by omega
    clear hQX hQY hQD e hrd hr b1 p1 z1 hsl h hs
    go_enter Tryz.func12, Tryz.ntmps12
    go_wp2_with fail
    refine hrd2.mono ?_
    rintro e w3 ⟨a5, n5, q5, a6, n6, q6, a7, n7, q7, rfl, hx⟩
    obtain ⟨w4, hw4⟩ : ∃ W, w3.alloc (.cells #[.slice a5 n5 q5, .string QX, .string QY, .slice a6 n6 q6, .string QD, .slice a7 n7 q7] 29) = W := ⟨_, rfl⟩
    have l4 : Below w3.heap.size w3 w4 := by rw [← hw4]; exact (Below.refl _ _).alloc (Nat.le_refl _) _
    have pn : PrtAt w4 w3.heap.size (.slice a5 n5 q5) (.string QX) (.string QY) (.slice a6 n6 q6) (.string QD) (.slice a7 n7 q7) := by rw [← hw4]; exact prt_new w3 _ _ _ _ _ _
    have p4 := (B1.out.2.1.below hx.out.1).below l4
    obtain ⟨x0, x1, x2, x3, x4, x5, -⟩ := pn.cells
    obtain ⟨y0, y1, y2, y3, y4, y5, v0, v1, v2, v3, v4, v5⟩ := p4.cells
    have pk := (p4.put (.slice a5 n5 q5) (.string QX) (.string QY) (.slice a6 n6 q6) (.string QD) (.slice a7 n7 q7)).cells
    unfold putP at pk
    obtain ⟨k0, k1, k2, k3, k4, k5, _⟩ := pk
    have Fin : Hid (ParsePostM s.data.toList w (.returned (.tuple #[.agg #[.slice a5 n5 q5, .string QX, .string QY, .slice a6 n6 q6, .string QD, .slice a7 n7 q7], .int .i64 er])) (putP w4 w.heap.size (.slice a5 n5 q5) (.string QX) (.string QY) (.slice a6 n6 q6) (.string QD) (.slice a7 n7 q7))) := Lib.hid (by
      unfold ParsePostM
      rw [HQ.out.2.2]
      have hz := B1.out.2.2
      have b34 := hx.out.1.trans (l4.mono hx.out.1.size)
      refine ⟨.slice a5 n5 q5, .slice a6 n6 q6, .slice a7 n7 q7, by rw [← HQ.out.1.1, ← HQ.out.1.2, ← HQ.out.2.1]; rfl, (hx.out.2.to (stay_all l4)).to fun g hg _ => ⟨by omega, fun jj => cell_block (putP_block (by omega) (.slice a5 n5 q5) (.string QX) (.string QY) (.slice a6 n6 q6) (.string QD) (.slice a7 n7 q7))⟩, ?_⟩
      exact below_putP (B1.out.1.trans (b34.mono B1.out.1.size)) (Nat.le_refl _) (.slice a5 n5 q5) (.string QX) (.string QY) (.slice a6 n6 q6) (.string QD) (.slice a7 n7 q7))
    clear hx pn p4 l4 hrd2
    go_wp2
    refine bodyPost_ret (v := .tuple #[.agg #[.slice a5 n5 q5, .string QX, .string QY, .slice a6 n6 q6, .string QD, .slice a7 n7 q7], .int .i64 er]) (by simp [results, Tryz.f12, go_sem, k0, k1, k2, k3, k4, k5]) rfl Fin.out
end Go.Proofs.YtidlpdiephlkhaaGreatDoor
