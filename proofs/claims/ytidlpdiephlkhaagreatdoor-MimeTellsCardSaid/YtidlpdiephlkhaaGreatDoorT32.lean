/-
  Texts of this proof, put together: MmF, MmG.
-/
import Derived.Test.YtidlpdiephlkhaaGreatDoorT31
import Derived.Deep.RegionHeld3
namespace Go.Proofs.YtidlpdiephlkhaaGreatDoor
open Go.RowKit

theorem mreader_any (Cb Rb : Nat) (m : Int) : ∀ (d j : Nat), j + d = 4 → ∀ (s : ByteArray) (n : Nat) (w : World), s.size ≤ 90000 → n ≤ 16 → RdOk Cb Rb m n w →
    Calls Tryz.prog 57 #[.string s, .int .i64 (j : Int), .pointer (some ⟨Cb, 0, none⟩), .pointer (some ⟨Rb, 0, none⟩)] w (ReadPost (partM d s.data.toList n) Cb w)
  | 0, j, hj, s, n, w, hs, hn, hk => mreader_step Cb Rb m 0 j hj (fun d' h => by cases h) s n w hs hn hk
  | d + 1, j, hj, s, n, w, hs, hn, hk => mreader_step Cb Rb m (d + 1) j hj (fun d' h s n w h1 h2 h3 => by
      cases h
      have := mreader_any Cb Rb m d (j + 1) (by omega) s n w h1 h2 h3
      rw [show (((j + 1 : Nat)) : Int) = (j : Int) + 1 by omega] at this
      exact this) s n w hs hn hk
theorem store_fnM {P : Program} {w : World} {a : Addr} {m : Mode} (fn : Fn) (first captured : Array Value) : (store a (.func fn first captured) m).run P w = stored P w a (.func fn first captured) m := run_store P w a _ m rfl
section
attribute [local go_sem] Oper.semAt_some store_fnM
theorem newreader_any (w : World) : Calls Tryz.prog 31 #[] w fun e w' => e = .returned (readerV w.heap.size (w.heap.size + 1)) ∧ w' = (w.alloc (.cells #[.int .i64 0] 3)).alloc (.cells #[readerV w.heap.size (w.heap.size + 1)] 55) := by
  have hmf : ∀ (fn : Fn) (first cap : Array Value) (w : World), (Instr.makeFunc fn first cap).run Tryz.prog w = .ok (.func fn first cap) w := fun _ _ _ _ => rfl
  unfold readerV
  go_enter Tryz.func31, Tryz.ntmps31
  go_wp2
  go_ret
  exact ⟨rfl, rfl⟩
end
/-- What parsing a message comes to. -/
def ParsePostM (s : TextH) (w : World) (e : Ending) (w' : World) : Prop :=
  ∃ fv pv rv, e = .returned (.tuple #[partV (parseM s).1 fv pv rv, .int .i64 (parseM s).2]) ∧ TreeP w' (fun g => w.heap.size ≤ g) (parseM s).1 fv pv rv ∧ Below w.heap.size w w'

set_option maxRecDepth 100000 in
set_option maxHeartbeats 8000000 in
theorem mparse_any (s : ByteArray) (m : Int) (w : World) (hs : s.size ≤ 1000000) (hm : w.cell? ⟨0, 0, none⟩ = some (.int .i64 m)) :
    Calls Tryz.prog 11 #[.string s] w (ParsePostM s.data.toList w) := by
  obtain ⟨w1, hw1⟩ : ∃ w1, w.alloc (.cells #[.slice none 0 0, .string ⟨#[]⟩, .string ⟨#[]⟩, .slice none 0 0, .string ⟨#[]⟩, .slice none 0 0] 29) = w1 := ⟨_, rfl⟩
  have b1 : Below w.heap.size w w1 := by rw [← hw1]; exact (Below.refl _ _).alloc (Nat.le_refl _) _
  have z1 : w1.heap.size = w.heap.size + 1 := by rw [← hw1]; simp
  have p1 : PrtAt w1 w.heap.size (.slice none 0 0) (.string ⟨#[]⟩) (.string ⟨#[]⟩) (.slice none 0 0) (.string ⟨#[]⟩) (.slice none 0 0) := by rw [← hw1]; exact prt_new w _ _ _ _ _ _
  have hsl : s.data.toList.length = s.size := rfl
  by_cases h : 16384 < s.size
  · have e : parseM s.data.toList = (nilM, 3) := by unfold parseM; rw [if_pos (by omega)]
    obtain ⟨y0, y1, y2, y3, y4, y5, v0, v1, v2, v3, v4, v5⟩ := p1.cells
    have pk := (p1.put (.slice none 0 0) (.string ⟨#[]⟩) (.string ⟨#[]⟩) (.slice none 0 0) (.string ⟨#[]⟩) (.slice none 0 0)).cells
    unfold putP at pk
    obtain ⟨k0, k1, k2, k3, k4, k5, _⟩ := pk
    have Fin : Hid (ParsePostM s.data.toList w (.returned (.tuple #[.agg #[.slice none 0 0, .string ⟨#[]⟩, .string ⟨#[]⟩, .slice none 0 0, .string ⟨#[]⟩, .slice none 0 0], .int .i64 3])) (putP w1 w.heap.size (.slice none 0 0) (.string ⟨#[]⟩) (.string ⟨#[]⟩) (.slice none 0 0) (.string ⟨#[]⟩) (.slice none 0 0))) := Lib.hid (by
      unfold ParsePostM
      rw [e]
      exact ⟨.slice none 0 0, .slice none 0 0, .slice none 0 0, rfl, TreeP.nil _ _, below_putP b1 (Nat.le_refl _) (.slice none 0 0) (.string ⟨#[]⟩) (.string ⟨#[]⟩) (.slice none 0 0) (.string ⟨#[]⟩) (.slice none 0 0)⟩)
    clear e hsl b1 p1 z1
    have hI : (16384 : Int) < (s.size : Int) := by omega
    clear h hs
    go_enter Tryz.func11, Tryz.ntmps11
    go_wp2
    refine bodyPost_ret (v := .tuple #[.agg #[.slice none 0 0, .string ⟨#[]⟩, .string ⟨#[]⟩, .slice none 0 0, .string ⟨#[]⟩, .slice none 0 0], .int .i64 3]) (by simp [results, Tryz.f11, go_sem, k0, k1, k2, k3, k4, k5]) rfl Fin.out
  · have e : parseM s.data.toList = ((partM 4 s.data.toList 0).1, (partM 4 s.data.toList 0).2.2) := by unfold parseM; rw [if_neg (by omega)]
    have hnr := newreader_any w1
    obtain ⟨w2, hw2⟩ : ∃ w2, (w1.alloc (.cells #[.int .i64 0] 3)).alloc (.cells #[readerV w1.heap.size (w1.heap.size + 1)] 55) = w2 := ⟨_, rfl⟩
    have b2 : Below w1.heap.size w1 w2 := by rw [← hw2]; exact ((Below.refl _ _).alloc (Nat.le_refl _) _).alloc (by simp) _
    have z2 : w2.heap.size = w1.heap.size + 2 := by rw [← hw2]; simp
    have hmw := cell_ltP hm
    have k2 : RdOk w1.heap.size (w1.heap.size + 1) m 0 w2 := by
      refine ⟨?_, ?_, by omega, (b2.cell (p := ⟨0, 0, none⟩) (by show 0 < _; omega)).trans ((b1.cell (p := ⟨0, 0, none⟩) hmw).trans hm), by omega⟩
      · rw [← hw2]
        exact (heap_alloc_old (w1.alloc (.cells #[.int .i64 0] 3)) _ (by simp)).trans (heap_alloc_new w1 _)
      · rw [← hw2]
        have := heap_alloc_new (w1.alloc (.cells #[.int .i64 0] 3)) (.cells #[readerV w1.heap.size (w1.heap.size + 1)] 55)
        rw [World.size_alloc] at this
        exact this
    rw [hw2] at hnr
    have hrd := mreader_any w1.heap.size (w1.heap.size + 1) m 4 0 rfl s 0 w2 (by omega) (by omega) k2
    obtain ⟨r, hr⟩ : ∃ r, partM 4 s.data.toList 0 = r := ⟨_, rfl⟩
    rw [hr] at hrd e
    obtain ⟨q, c2, er⟩ := r
    obtain ⟨QX, hQX⟩ : ∃ QX, textQ q.typ.1 = QX := ⟨_, rfl⟩
    obtain ⟨QY, hQY⟩ : ∃ QY, textQ q.typ.2.1 = QY := ⟨_, rfl⟩
    obtain ⟨QD, hQD⟩ : ∃ QD, textQ q.body = QD := ⟨_, rfl⟩
    have hrd2 : Calls Tryz.prog 57 #[.string s, .int .i64 0, .pointer (some ⟨w1.heap.size, 0, none⟩), .pointer (some ⟨w1.heap.size + 1, 0, none⟩)] w2 fun e w' => ∃ a5 n5 q5 a6 n6 q6 a7 n7 q7, e = .returned (.tuple #[.agg #[.slice a5 n5 q5, .string QX, .string QY, .slice a6 n6 q6, .string QD, .slice a7 n7 q7], .int .i64 er]) ∧ Hid (TakeK w1.heap.size w2.heap.size w2 w' ∧ TreeP w' (fun g => w2.heap.size ≤ g) q (.slice a5 n5 q5) (.slice a6 n6 q6) (.slice a7 n7 q7)) := hrd.mono fun e w' ⟨h1, h2, fv, pv, rv, h3, h4⟩ => by
      obtain ⟨⟨a5, n5, q5, rfl⟩, ⟨a6, n6, q6, rfl⟩, ⟨a7, n7, q7, rfl⟩⟩ := h4.slices
      exact ⟨_, _, _, _, _, _, _, _, _, by rw [h3, ← hQX, ← hQY, ← hQD]; rfl, Lib.hid ⟨h1, h4⟩⟩
    have HQ := Lib.hid (And.intro (And.intro hQX hQY) (And.intro hQD e))
    have B2 := Lib.hid (And.intro (And.intro b1 p1) b2)
    have er2 := enter_reader
    have hI : (s.size : Int) ≤ 16384 := by omega
    clear hQX hQY hQD e hrd hr k2 b1 p1 b2 hsl hw2 h hs
    have Z := Lib.hid (And.intro z1 z2)
    clear z1 z2
    unfold readerV at hnr
    go_enter Tryz.func11, Tryz.ntmps11
    go_wp2_with fail
    refine hnr.mono ?_
    rintro e w9 ⟨rfl, h9⟩
    obtain rfl := h9.symm
    clear hnr h9
    go_wp2_with fail
    refine hrd2.mono ?_
    rintro e w3 ⟨a5, n5, q5, a6, n6, q6, a7, n7, q7, rfl, hx⟩
    have hzz := Z.out
    have p3 : PrtAt w3 w.heap.size (.slice none 0 0) (.string ⟨#[]⟩) (.string ⟨#[]⟩) (.slice none 0 0) (.string ⟨#[]⟩) (.slice none 0 0) := hx.out.1.heap (B2.out.1.2.below B2.out.2) (by omega) (by omega)
    obtain ⟨y0, y1, y2, y3, y4, y5, v0, v1, v2, v3, v4, v5⟩ := p3.cells
    have pk := (p3.put (.slice a5 n5 q5) (.string QX) (.string QY) (.slice a6 n6 q6) (.string QD) (.slice a7 n7 q7)).cells
    unfold putP at pk
    obtain ⟨k0, k1, k2, k3, k4, k5, _⟩ := pk
    have Fin : Hid (ParsePostM s.data.toList w (.returned (.tuple #[.agg #[.slice a5 n5 q5, .string QX, .string QY, .slice a6 n6 q6, .string QD, .slice a7 n7 q7], .int .i64 er])) (putP w3 w.heap.size (.slice a5 n5 q5) (.string QX) (.string QY) (.slice a6 n6 q6) (.string QD) (.slice a7 n7 q7))) := Lib.hid (by
      unfold ParsePostM
      rw [HQ.out.2.2]
      refine ⟨.slice a5 n5 q5, .slice a6 n6 q6, .slice a7 n7 q7, by rw [← HQ.out.1.1, ← HQ.out.1.2, ← HQ.out.2.1]; rfl, hx.out.2.to fun g hg _ => ⟨by omega, fun jj => cell_block (putP_block (by omega) (.slice a5 n5 q5) (.string QX) (.string QY) (.slice a6 n6 q6) (.string QD) (.slice a7 n7 q7))⟩, ?_⟩
      exact below_putP ((B2.out.1.1.trans (B2.out.2.mono (by omega))).trans (hx.out.1.below (by omega) (by omega))) (Nat.le_refl _) (.slice a5 n5 q5) (.string QX) (.string QY) (.slice a6 n6 q6) (.string QD) (.slice a7 n7 q7))
    clear hx p3 hzz
    go_wp2
    refine bodyPost_ret (v := .tuple #[.agg #[.slice a5 n5 q5, .string QX, .string QY, .slice a6 n6 q6, .string QD, .slice a7 n7 q7], .int .i64 er]) (by simp [results, Tryz.f11, go_sem, k0, k1, k2, k3, k4, k5]) rfl Fin.out
end Go.Proofs.YtidlpdiephlkhaaGreatDoor
namespace Go.Proofs.YtidlpdiephlkhaaGreatDoor
open Go.RowKit

set_option maxRecDepth 100000 in
set_option maxHeartbeats 4000000 in
theorem mcopyf_any (X Y : ByteArray) (w : World) (h1 : X.size ≤ 100000000) (h2 : Y.size ≤ 100000000) :
    Calls Tryz.prog 42 #[.agg #[.string X, .string Y]] w fun e w' => e = .returned (.agg #[.string X, .string Y]) ∧ Below w.heap.size w w' := by
  obtain ⟨w0, hw0⟩ : ∃ w0, (w.alloc (.cells #[.string X, .string Y] 52)).alloc (.cells #[.string ⟨#[]⟩, .string ⟨#[]⟩] 52) = w0 := ⟨_, rfl⟩
  have z0 : w0.heap.size = w.heap.size + 2 := by rw [← hw0]; simp
  have b0 : Below w.heap.size w w0 := by rw [← hw0]; exact ((Below.refl _ _).alloc (Nat.le_refl _) _).alloc (by simp) _
  have a0 : w0.heap[w.heap.size]? = some (.cells #[.string X, .string Y] 52 (0, 0)) := by
    rw [← hw0]
    exact (heap_alloc_old _ _ (by simp)).trans (heap_alloc_new w _)
  have r0 : w0.heap[w.heap.size + 1]? = some (.cells #[.string ⟨#[]⟩, .string ⟨#[]⟩] 52 (0, 0)) := by
    rw [← hw0]
    have := heap_alloc_new (w.alloc (.cells #[.string X, .string Y] 52)) (.cells #[.string ⟨#[]⟩, .string ⟨#[]⟩] 52)
    rw [World.size_alloc] at this
    exact this
  have hS : Hid (∀ W, Below w0.heap.size w0 W → W.cell? ⟨w.heap.size, 0, none⟩ = some (.string X) ∧ W.cell? ⟨w.heap.size, 1, none⟩ = some (.string Y) ∧ W.cell? ⟨w.heap.size + 1, 0, none⟩ = some (.string ⟨#[]⟩) ∧ W.cell? ⟨w.heap.size + 1, 1, none⟩ = some (.string ⟨#[]⟩) ∧ W.frozen? ⟨w.heap.size + 1, 0, none⟩ = false ∧ W.frozen? ⟨w.heap.size + 1, 1, none⟩ = false ∧ Below w0.heap.size w0 W) := Lib.hid fun W hW => by
    have e1 := (hW.block w.heap.size (by omega)).trans a0
    have e2 := (hW.block (w.heap.size + 1) (by omega)).trans r0
    exact ⟨Lib.cell_of_heap e1 0, Lib.cell_of_heap e1 1, Lib.cell_of_heap e2 0, Lib.cell_of_heap e2 1, Lib.frozen_of_heap e2 0, Lib.frozen_of_heap e2 1, hW⟩
  have hc : ∀ T (hT : T.size ≤ 100000000), Hid (∀ W, (W.cell? ⟨w.heap.size, 0, none⟩ = some (.string X) ∧ W.cell? ⟨w.heap.size, 1, none⟩ = some (.string Y) ∧ W.cell? ⟨w.heap.size + 1, 0, none⟩ = some (.string ⟨#[]⟩) ∧ W.cell? ⟨w.heap.size + 1, 1, none⟩ = some (.string ⟨#[]⟩) ∧ W.frozen? ⟨w.heap.size + 1, 0, none⟩ = false ∧ W.frozen? ⟨w.heap.size + 1, 1, none⟩ = false ∧ Below w0.heap.size w0 W) → Calls Tryz.prog 67 #[.string T] W fun e w' => e = .returned (.string T) ∧ (w'.cell? ⟨w.heap.size, 0, none⟩ = some (.string X) ∧ w'.cell? ⟨w.heap.size, 1, none⟩ = some (.string Y) ∧ w'.cell? ⟨w.heap.size + 1, 0, none⟩ = some (.string ⟨#[]⟩) ∧ w'.cell? ⟨w.heap.size + 1, 1, none⟩ = some (.string ⟨#[]⟩) ∧ w'.frozen? ⟨w.heap.size + 1, 0, none⟩ = false ∧ w'.frozen? ⟨w.heap.size + 1, 1, none⟩ = false ∧ Below w0.heap.size w0 w')) := fun T hT => Lib.hid fun W hW => by
    obtain ⟨_, _, _, _, _, _, hW⟩ := hW
    refine (sclone_any T W hT).mono ?_
    rintro e w' ⟨rfl, hb⟩
    exact ⟨rfl, hS.out _ (hW.trans (hb.mono hW.size))⟩
  have HX := hc X h1
  have HY := hc Y h2
  have hS0 := Lib.hid (hS.out w0 (Below.refl _ _))
  have hS1 := Lib.hid (hS.out _ (Below.refl w0.heap.size w0).drew)
  have B0 := Lib.hid (And.intro b0 r0)
  have hwk : Hid (∀ W, (W.cell? ⟨w.heap.size, 0, none⟩ = some (.string X) ∧ W.cell? ⟨w.heap.size, 1, none⟩ = some (.string Y) ∧ W.cell? ⟨w.heap.size + 1, 0, none⟩ = some (.string ⟨#[]⟩) ∧ W.cell? ⟨w.heap.size + 1, 1, none⟩ = some (.string ⟨#[]⟩) ∧ W.frozen? ⟨w.heap.size + 1, 0, none⟩ = false ∧ W.frozen? ⟨w.heap.size + 1, 1, none⟩ = false ∧ Below w0.heap.size w0 W) → (W.cell? ⟨w.heap.size, 0, none⟩ = some (.string X) ∧ W.cell? ⟨w.heap.size, 1, none⟩ = some (.string Y) ∧ Below (w.heap.size + 1) w0 W)) := Lib.hid fun W ⟨q0, q1, _, _, _, _, q9⟩ => ⟨q0, q1, q9.mono (by omega)⟩
  have hput : Hid (∀ W, (W.cell? ⟨w.heap.size, 0, none⟩ = some (.string X) ∧ W.cell? ⟨w.heap.size, 1, none⟩ = some (.string Y) ∧ Below (w.heap.size + 1) w0 W) → (((W.setCell ⟨w.heap.size + 1, 0, none⟩ (.string X)).setCell ⟨w.heap.size + 1, 1, none⟩ (.string Y)).cell? ⟨w.heap.size, 0, none⟩ = some (.string X) ∧ ((W.setCell ⟨w.heap.size + 1, 0, none⟩ (.string X)).setCell ⟨w.heap.size + 1, 1, none⟩ (.string Y)).cell? ⟨w.heap.size, 1, none⟩ = some (.string Y) ∧ Below (w.heap.size + 1) w0 ((W.setCell ⟨w.heap.size + 1, 0, none⟩ (.string X)).setCell ⟨w.heap.size + 1, 1, none⟩ (.string Y)))) := Lib.hid fun W ⟨q0, q1, q9⟩ => by
    have hb : Below (w.heap.size + 1) W ((W.setCell ⟨w.heap.size + 1, 0, none⟩ (.string X)).setCell ⟨w.heap.size + 1, 1, none⟩ (.string Y)) := ((Below.refl _ _).setCell (p := ⟨w.heap.size + 1, 0, none⟩) (Nat.le_refl _) _).setCell (p := ⟨w.heap.size + 1, 1, none⟩) (Nat.le_refl _) _
    exact ⟨(hb.cell (p := ⟨w.heap.size, 0, none⟩) (by simp)).trans q0, (hb.cell (p := ⟨w.heap.size, 1, none⟩) (by simp)).trans q1, q9.trans hb⟩
  have hw0k := Lib.hid (hwk.out _ hS0.out)
  have hw1k := Lib.hid (hwk.out _ hS1.out)
  clear a0 r0 hc b0
  go_enter Tryz.func42, Tryz.ntmps42
  go_wp2_with fail
  go_region_held3 (fun W => W.cell? ⟨w.heap.size, 0, none⟩ = some (.string X) ∧ W.cell? ⟨w.heap.size, 1, none⟩ = some (.string Y) ∧ Below (w.heap.size + 1) w0 W)
    (first | assumption | exact hw0k.out | exact hw1k.out | exact hput.out _ (by assumption) | (trace_state; fail))
    (first
      | (go_at_call 67; (with_reducible refine (HX.out _ ?_).mono ?_); (first | exact hS0.out | exact hS1.out | assumption); rintro e w1 ⟨rfl, hS11⟩; have k11 := hwk.out _ hS11; obtain ⟨x0, x1, x2, x3, x4, x5, x6⟩ := id hS11)
      | (go_at_call 67; (with_reducible refine (HY.out _ ?_).mono ?_); (first | assumption); rintro e w2 ⟨rfl, hS12⟩; have k12 := hwk.out _ hS12; obtain ⟨y0, y1, y2, y3, y4, y5, y6⟩ := id hS12))
  have e2 := (y6.block (w.heap.size + 1) (by omega)).trans B0.out.2
  have e3 := heap_setCell_same _ _ 0 _ _ (.string X) e2
  have e4 := heap_setCell_same _ _ 1 _ _ (.string Y) e3
  have k0 := Lib.cell_of_heap e4 0
  have k1 := Lib.cell_of_heap e4 1
  simp at k0 k1
  have B := Lib.hid (((B0.out.1.trans (y6.mono B0.out.1.size)).setCell (p := ⟨w.heap.size + 1, 0, none⟩) (by show w.heap.size ≤ w.heap.size + 1; omega) (.string X)).setCell (p := ⟨w.heap.size + 1, 1, none⟩) (by show w.heap.size ≤ w.heap.size + 1; omega) (.string Y))
  clear hS0 hS1 HX HY hwk hput hw0k hw1k hS B0 e2 e3 e4
  go_wp2
  refine bodyPost_ret (v := .agg #[.string X, .string Y]) (by simp [results, Tryz.f42, go_sem, k0, k1]) rfl ⟨rfl, B.out⟩
end Go.Proofs.YtidlpdiephlkhaaGreatDoor
