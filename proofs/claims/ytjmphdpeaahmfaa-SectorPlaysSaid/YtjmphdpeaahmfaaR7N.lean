/-
  The document's disk: what its New comes to.
-/
import Derived.Test.YtjmphdpeaahmfaaR7D
import Derived.Deep.AppendLies
import Derived.Deep.RegionLaw
import Derived.Deep.Cut
namespace Go.Proofs.Ytjmphdpeaahmfaa
open Go.RowKit

theorem infoStr7 : (Try.prog.info? 9).map (fun i => (i.zero, i.size, i.bytes)) = some (some (.string ⟨#[]⟩), 1, 16) := by kernel_rfl
/-- A row lies as it lay where a cell of a block of another type was set. -/
theorem row_set {w : World} {B e e2 size n : Nat} {v : Value} {xs : List Value} {db j : Nat} {x : Value} {cs : Array Value} (h : w.ownsRow B e size v n xs) (hd : w.heap[db]? = some (.cells cs e2 (0, 0))) (hne : e ≠ e2) : (w.setCell ⟨db, j, none⟩ x).ownsRow B e size v n xs :=
  (Turned.set (S := fun b => b = db) (w := w) (j := j) (N := db) (v := x) rfl).row h (fun b hb e3 => by
    obtain ⟨_, cur, hc⟩ := row_block h hb
    rw [e3, hd] at hc
    simp at hc
    exact hne hc.2.symm)
/-- The other block lies as it lay where a row grew. -/
theorem block_grown {w w' : World} {B e e2 size n : Nat} {v : Value} {xs : List Value} {db : Nat} {cs : Array Value} (h : w.ownsRow B e size v n xs) (hd : w.heap[db]? = some (.cells cs e2 (0, 0))) (hne : e ≠ e2) (hg : w.grownBy w' v.ownBlock) : w'.heap[db]? = some (.cells cs e2 (0, 0)) := by
  rw [hg.block db (Array.getElem?_eq_some_iff.1 hd).1 (fun e3 => ?_)]
  · exact hd
  · obtain ⟨_, cur, hc⟩ := row_block h e3.symm
    rw [hd] at hc
    simp at hc
    exact hne hc.2.symm

/-- Six cells of one block are set. -/
def set6 (w : World) (b : Nat) (v0 v1 v2 v3 v4 v5 : Value) : World :=
  (((((w.setCell ⟨b, 0, none⟩ v0).setCell ⟨b, 1, none⟩ v1).setCell ⟨b, 2, none⟩ v2).setCell ⟨b, 3, none⟩ v3).setCell ⟨b, 4, none⟩ v4).setCell ⟨b, 5, none⟩ v5
theorem turned_six {w : World} {b : Nat} {v0 v1 v2 v3 v4 v5 : Value} {S : Nat → Prop} (hS : S b) : Turned S w (set6 w b v0 v1 v2 v3 v4 v5) :=
  (((((Turned.set (S := S) (j := 0) (N := b) (v := v0) hS).trans (Turned.set (S := S) (j := 1) (N := b) (v := v1) hS) (fun _ h => .inl h)).trans (Turned.set (S := S) (j := 2) (N := b) (v := v2) hS) (fun _ h => .inl h)).trans
    (Turned.set (S := S) (j := 3) (N := b) (v := v3) hS) (fun _ h => .inl h)).trans (Turned.set (S := S) (j := 4) (N := b) (v := v4) hS) (fun _ h => .inl h)).trans (Turned.set (S := S) (j := 5) (N := b) (v := v5) hS) (fun _ h => .inl h)
theorem heap_six {w : World} {b : Nat} {v0 v1 v2 v3 v4 v5 u0 u1 u2 u3 u4 u5 : Value} {t : TypeId} (h : w.heap[b]? = some (.cells #[u0, u1, u2, u3, u4, u5] t (0, 0))) : (set6 w b v0 v1 v2 v3 v4 v5).heap[b]? = some (.cells #[v0, v1, v2, v3, v4, v5] t (0, 0)) := by
  unfold set6
  exact set_block (set_block (set_block (set_block (set_block (set_block h)))))
theorem row_six {w : World} {B e e2 size n : Nat} {v : Value} {xs : List Value} {b : Nat} {v0 v1 v2 v3 v4 v5 : Value} {cs : Array Value} (h : w.ownsRow B e size v n xs) (hd : w.heap[b]? = some (.cells cs e2 (0, 0))) (hne : e ≠ e2) : (set6 w b v0 v1 v2 v3 v4 v5).ownsRow B e size v n xs :=
  (turned_six (S := fun k => k = b) rfl).row h (fun k hk e3 => by
    obtain ⟨_, cur, hc⟩ := row_block h hk
    rw [e3, hd] at hc
    simp at hc
    exact hne hc.2.symm)
theorem below_six {w0 w : World} {B b : Nat} {v0 v1 v2 v3 v4 v5 : Value} (h : Below B w0 w) (hb : B ≤ b) (hB : B ≤ w.heap.size) : Below B w0 (set6 w b v0 v1 v2 v3 v4 v5) :=
  h.trans ((turned_six (S := fun k => k = b) rfl).below hB (fun k e => by omega))
theorem cells_six {w : World} {b : Nat} {v0 v1 v2 v3 v4 v5 : Value} {t : TypeId} (h : w.heap[b]? = some (.cells #[v0, v1, v2, v3, v4, v5] t (0, 0))) :
    w.cell? ⟨b, 0, none⟩ = some v0 ∧ w.cell? ⟨b, 1, none⟩ = some v1 ∧ w.cell? ⟨b, 2, none⟩ = some v2 ∧ w.cell? ⟨b, 3, none⟩ = some v3 ∧ w.cell? ⟨b, 4, none⟩ = some v4 ∧ w.cell? ⟨b, 5, none⟩ = some v5 ∧ ∀ j, w.frozen? ⟨b, j, none⟩ = false := by
  refine ⟨?_, ?_, ?_, ?_, ?_, ?_, fun j => Lib.frozen_of_heap h j⟩ <;> rw [Lib.cell_of_heap h] <;> rfl

set_option maxRecDepth 100000 in
set_option maxHeartbeats 4000000 in
theorem dnew_any (n : Nat) (h1 : 1 ≤ n) (h2 : n ≤ 4096) (w : World) :
    Calls Try.prog 10 #[.int .i64 (n : Int)] w fun e w' => ∃ v, e = .returned (refV v (newD n)) ∧ RefAt w' w.heap.size v (newD n) ∧ Below w.heap.size w w' := by
  obtain ⟨i0, hi, hz0, hz1, hz2⟩ := info_parts infoStr7
  obtain ⟨Z, hZ⟩ : ∃ Z, textD (List.replicate 64 0) = Z := ⟨_, rfl⟩
  have HF : Hid (∀ W : World, Calls Try.prog 23 #[.string ⟨#[]⟩] W fun e w' => e = .returned (.string Z) ∧ Below W.heap.size W w') := Lib.hid fun W => by
    have := dfill_any ⟨#[]⟩ (by decide) W
    rw [show fillD (⟨#[]⟩ : ByteArray).data.toList = List.replicate 64 0 from rfl, hZ] at this
    exact this
  have HZ := Lib.hid hZ
  clear hZ
  go_enter Try.func10, Try.ntmps10
  go_wp2_with fail
  have hw2 : Below w.heap.size w ((w.alloc (.cells #[.slice none 0 0, .int .i64 0, .int .i64 0, .int .i64 0, .bool false, .int .i64 0] 33)).alloc (.cells #[.slice none 0 0, .int .i64 0, .int .i64 0, .int .i64 0, .bool false, .int .i64 0] 33)) := ((Below.refl _ w).alloc (Nat.le_refl _) _).alloc (by simp) _
  have hr2 : ((w.alloc (.cells #[.slice none 0 0, .int .i64 0, .int .i64 0, .int .i64 0, .bool false, .int .i64 0] 33)).alloc (.cells #[.slice none 0 0, .int .i64 0, .int .i64 0, .int .i64 0, .bool false, .int .i64 0] 33)).heap[w.heap.size]? = some (.cells #[.slice none 0 0, .int .i64 0, .int .i64 0, .int .i64 0, .bool false, .int .i64 0] 33 (0, 0)) := by
    rw [heap_alloc_old _ _ (by simp)]
    exact heap_alloc_new w _
  have hd2 : ((w.alloc (.cells #[.slice none 0 0, .int .i64 0, .int .i64 0, .int .i64 0, .bool false, .int .i64 0] 33)).alloc (.cells #[.slice none 0 0, .int .i64 0, .int .i64 0, .int .i64 0, .bool false, .int .i64 0] 33)).heap[w.heap.size + 1]? = some (.cells #[.slice none 0 0, .int .i64 0, .int .i64 0, .int .i64 0, .bool false, .int .i64 0] 33 (0, 0)) := by
    have := heap_alloc_new (w.alloc (.cells #[.slice none 0 0, .int .i64 0, .int .i64 0, .int .i64 0, .bool false, .int .i64 0] 33)) (.cells #[.slice none 0 0, .int .i64 0, .int .i64 0, .int .i64 0, .bool false, .int .i64 0] 33)
    simpa using this
  generalize ((w.alloc (.cells #[.slice none 0 0, .int .i64 0, .int .i64 0, .int .i64 0, .bool false, .int .i64 0] 33)).alloc (.cells #[.slice none 0 0, .int .i64 0, .int .i64 0, .int .i64 0, .bool false, .int .i64 0] 33)) = w2 at hw2 hr2 hd2 ⊢
  obtain ⟨db, hdb⟩ : ∃ db, w.heap.size + 1 = db := ⟨_, rfl⟩
  rw [hdb] at hd2 ⊢
  go_loopw [4] (fun iv W => ∃ (i : Nat) (v : Value), i ≤ n ∧ iv = .int .i64 i ∧ Hid (W.heap[w.heap.size]? = some (.cells #[.slice none 0 0, .int .i64 0, .int .i64 0, .int .i64 0, .bool false, .int .i64 0] 33 (0, 0))) ∧ Hid (W.heap[db]? = some (.cells #[v, .int .i64 0, .int .i64 0, .int .i64 0, .bool false, .int .i64 0] 33 (0, 0))) ∧
    Hid (W.ownsRow w.heap.size 9 1 v i (List.replicate i (.string Z))) ∧ Below w.heap.size w W) (fun iv _ => n - (intOf iv).toNat)
  case atStart => exact ⟨0, .slice none 0 0, by omega, rfl, Lib.hid hr2, Lib.hid hd2, Lib.hid (World.ownsRow_nil _ _ _ _), hw2⟩
  case round =>
    clear hr2 hd2 hw2
    obtain ⟨i, v, hi1, rfl, hr, hd, hown, hb⟩ := hrel
    have hbz := hb.size
    have hdl : db < wr.heap.size := (Array.getElem?_eq_some_iff.1 hd.out).1
    obtain ⟨ao, cap, rfl⟩ := row_slice hown.out
    have c0 : wr.cell? ⟨db, 0, none⟩ = some (.slice ao i cap) := by rw [Lib.cell_of_heap hd.out]; rfl
    by_cases hlt : i < n
    · have HR : Hid (∀ W, Below wr.heap.size wr W → ∀ o, (W.alloc o).ownsRow w.heap.size 9 1 (.slice ao i cap) i (List.replicate i (.string Z))) := Lib.hid fun W hW o => ownsRow_below4 (ownsRow_below4 hown.out hW) ((Below.refl _ W).alloc (Nat.le_refl _) o)
      have HD : Hid (∀ W, Below wr.heap.size wr W → ∀ o, (W.alloc o).heap[db]? = some (.cells #[.slice ao i cap, .int .i64 0, .int .i64 0, .int .i64 0, .bool false, .int .i64 0] 33 (0, 0))) := Lib.hid fun W hW o => by
        have := (hW.block db hdl).trans hd.out
        rw [heap_alloc_old W o (Array.getElem?_eq_some_iff.1 this).1]
        exact this
      have h63 : i + 1 ≤ maxLen := by unfold maxLen; omega
      have hbb : (i + 1) * 16 ≤ 140737488355328 := by omega
      go_wp2_with fail
      go_region_law (first
        | (go_simp; go_at_call 23; refine (HF.out _).mono ?_; rintro e w9 ⟨rfl, hb8⟩; have hb9 : Below wr.heap.size wr w9 := (below_drewN (Below.refl _ wr) 1).trans hb8; have c9 : w9.cell? ⟨db, 0, none⟩ = some (.slice ao i cap) := (hb9.cell (p := ⟨db, 0, none⟩) hdl).trans c0; have z9 : db < w9.heap.size := Nat.lt_of_lt_of_le hdl hb9.size; have c9a : ∀ o, (w9.alloc o).cell? ⟨db, 0, none⟩ = some (.slice ao i cap) := fun o => Lib.cell?_alloc_some o c9; clear hb8)
        | (refine step_append_lies _ (by rfl) _ _ _ (by rfl) w.heap.size 9 i0 _ 1 16 Try.underlying29 hi hz0 hz1 hz2 rfl (by omega) (.slice ao i cap) i (List.replicate i (.string Z)) (by rfl) (HR.out w9 hb9 _) ⟨w9.heap.size, 0, none⟩ 1 1 [.string Z] (by rfl) (by rfl) (World.news_of_block (cs := #[.string Z]) (t := 9) (fr := (0, 0)) (heap_alloc_new w9 _)) (by simp [Value.oneCell']) (by omega) h63 hbb (by have := hb9.size; first | (simp; omega) | (simp; done) | omega) (w9.heap.size + 1) (by simp) ?_; intro gg cap1 w1 hown1 hgrow hat hlt1; have hd1 := block_grown (HR.out w9 hb9 _) (HD.out w9 hb9 _) (by decide) hgrow; have c1 : w1.cell? ⟨db, 0, none⟩ = some (.slice ao i cap) := (Lib.cell_of_heap hd1 0).trans rfl; have f1 : w1.frozen? ⟨db, 0, none⟩ = false := Lib.frozen_of_heap hd1 0; have Hd1 := Lib.hid hd1; clear hd1))
      all_goals
        have hR9 := HR.out w9 hb9 (.cells #[.string Z] 9)
        have hr9 : (w9.alloc (.cells #[.string Z] 9)).heap[w.heap.size]? = some (.cells #[.slice none 0 0, .int .i64 0, .int .i64 0, .int .i64 0, .bool false, .int .i64 0] 33 (0, 0)) := by
          have h5 := (hb9.block w.heap.size (Array.getElem?_eq_some_iff.1 hr.out).1).trans hr.out
          rw [heap_alloc_old w9 _ (Array.getElem?_eq_some_iff.1 h5).1]
          exact h5
        have hr1 := block_grown hR9 hr9 (by decide) hgrow
        have hfin : Below w.heap.size w (w1.setCell ⟨db, 0, none⟩ (.slice (some ⟨gg, 0, none⟩) (i + 1) cap1)) :=
          (((hb.trans (hb9.mono hbz)).alloc (by have := hb9.size; omega) _).grown hgrow (by have := hb9.size; simp; omega) (fun k hk => (row_block hR9 hk).1)).setCell (p := ⟨db, 0, none⟩) (by show w.heap.size ≤ db; omega) _
        have hown2 := row_set (db := db) (j := 0) (x := .slice (some ⟨gg, 0, none⟩) (i + 1) cap1) hown1 Hd1.out (by decide)
        rw [← List.replicate_succ'] at hown2
        have hd2 := set_block (j := 0) (x := .slice (some ⟨gg, 0, none⟩) (i + 1) cap1) Hd1.out
        have hr2 := (Turned.set (S := fun b => b = db) (w := w1) (j := 0) (N := db) (v := .slice (some ⟨gg, 0, none⟩) (i + 1) cap1) rfl).heap hr1 (fun e => by omega)
        have HH := Lib.hid (And.intro hfin (And.intro hown2 (And.intro hd2 hr2)))
        clear hfin hown2 hd2 hr2 hr1 hr9 hR9 hown1 hgrow hat c1 f1 Hd1 c9 c9a hb9 HD HR c0
        go_wp2
        go_roundw
        case rel => exact ⟨i + 1, _, by omega, by go_num, Lib.hid HH.out.2.2.2, Lib.hid HH.out.2.2.1, Lib.hid HH.out.2.1, HH.out.1⟩
        case measure => simp [intOf]; omega
    · obtain rfl : i = n := by omega
      obtain ⟨z0, z1, z2, z3, z4, z5, _⟩ := cells_six hd.out
      obtain ⟨y0, y1, y2, y3, y4, y5, fr⟩ := cells_six hr.out
      have hrow := row_six (v0 := .slice ao i cap) (v1 := .int .i64 0) (v2 := .int .i64 0) (v3 := .int .i64 0) (v4 := .bool false) (v5 := .int .i64 0) hown.out hr.out (by decide)
      have hbl := below_six (b := w.heap.size) (v0 := .slice ao i cap) (v1 := .int .i64 0) (v2 := .int .i64 0) (v3 := .int .i64 0) (v4 := .bool false) (v5 := .int .i64 0) hb (Nat.le_refl _) hbz
      have HH := Lib.hid (And.intro hrow hbl)
      clear hrow hbl
      go_wp2
      refine bodyPost_ret (v := .agg #[.slice ao i cap, .int .i64 0, .int .i64 0, .int .i64 0, .bool false, .int .i64 0]) (by simp [results, Try.results10, go_sem, y0, y1, y2, y3, y4, y5]) rfl ⟨.slice ao i cap, rfl, ?_, HH.out.2⟩
      have e : (newD i).ss.map (fun s => Value.string (textD s)) = List.replicate i (.string Z) := by
        show (List.replicate i (List.replicate 64 0)).map _ = _
        rw [List.map_replicate, HZ.out]
      unfold RefAt
      rw [e, show (newD i).ss.length = i from List.length_replicate ..]
      exact HH.out.1
end Go.Proofs.Ytjmphdpeaahmfaa
