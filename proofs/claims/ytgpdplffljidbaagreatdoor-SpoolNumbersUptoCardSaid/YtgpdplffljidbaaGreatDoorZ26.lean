/-
  Texts of this proof, put together: StK.
-/
import Derived.Test.YtgpdplffljidbaaGreatDoorZ25
namespace Go.Proofs.YtgpdplffljidbaaGreatDoor
open Go.RowKit Go.Maps

theorem heap_oldX (w : World) (o : Obj) {r : Nat} (h : r < w.heap.size) : (w.alloc o).heap[r]? = w.heap[r]? := by
  show (w.heap.push o)[r]? = _
  rw [Array.getElem?_push_lt h, Array.getElem?_eq_getElem h]
theorem has_pre9 (s p : ByteArray) (w : World) : Calls Tryz.prog 57 #[.string s, .string p] w fun e w' => e = .returned (.bool (Lib.hasPrefix s.data.toList p.data.toList)) ∧ w' = w := by
  have h := Tryz.stringslite_HasPrefix s p w
  go_enter Tryz.func57, Tryz.ntmps57
  go_wp2_with (go_at_call 79; refine h.mono ?_; rintro e w' ⟨rfl, rfl⟩)
  go_ret
  exact ⟨rfl, rfl⟩
theorem pre_take (x p : List UInt8) : Lib.hasPrefix x p = decide (x.take p.length = p) := by
  unfold Lib.hasPrefix
  rw [Bool.eq_iff_iff, decide_eq_true_iff, List.isPrefixOf_iff_prefix, List.prefix_iff_eq_take]
  exact ⟨fun h => h.symm, fun h => h.symm⟩

theorem valF_four (t : List UInt8) (h : t.length ≤ 4) : valF 0 t < 4294967296 := by
  match t, h with
  | [], _ => simp [valF]
  | [a], _ => have := a.toNat_lt; simp [valF]; omega
  | [a, b], _ => have := a.toNat_lt; have := b.toNat_lt; simp [valF]; omega
  | [a, b, c], _ => have := a.toNat_lt; have := b.toNat_lt; have := c.toNat_lt; simp [valF]; omega
  | [a, b, c, d], _ => have := a.toNat_lt; have := b.toNat_lt; have := c.toNat_lt; have := d.toNat_lt; simp [valF]; omega
theorem cells_four9 {w : World} {b t : Nat} {x y z u : Value} (h : w.heap[b]? = some (.cells #[x, y, z, u] t (0, 0))) : w.cell? ⟨b, 0, none⟩ = some x ∧ w.cell? ⟨b, 1, none⟩ = some y ∧ w.cell? ⟨b, 2, none⟩ = some z ∧ w.cell? ⟨b, 3, none⟩ = some u ∧ ∀ j, w.frozen? ⟨b, j, none⟩ = false := by
  refine ⟨?_, ?_, ?_, ?_, fun j => Lib.frozen_of_heap h j⟩ <;> rw [Lib.cell_of_heap h] <;> rfl
def WholeKept (N Nd m : Nat) (st : StP) (w w' : World) : Prop := ∃ cs', Held9 w' N cs' 110 ∧ CellsOk cs' Nd m st ∧ Turned (fun b => b = N) w w'

theorem WholeKept.drew {N Nd m : Nat} {st : StP} {w w' : World} (h : WholeKept N Nd m st w w') : WholeKept N Nd m st w w'.drew := by
  obtain ⟨cs', h1, h2, h3⟩ := h
  exact ⟨cs', h1, h2, h3.trans (Turned.drew (S := fun b => b = N)) (fun b hb => .inl hb)⟩

set_option maxRecDepth 100000 in
set_option maxHeartbeats 4000000 in
theorem whole_any (N Nd m : Nat) (cs : Array Value) (st : StP) (w : World) (h : Held9 w N cs 110) (hc : CellsOk cs Nd m st) (x : List UInt8) (hx : x.length ≤ 1000000) (h64 : x = [] ∨ 64 ≤ x.length) :
    Calls Tryz.prog 73 #[.pointer (some ⟨N, 0, none⟩), .string (textQ x)] w fun e w' => WholeKept N Nd m st w w' ∧
      ((readF sumH x = none ∧ e = .returned (.tuple #[plV ⟨0, 0, 0, 0⟩, .string ⟨#[]⟩, .bool false])) ∨ (∃ g n t, readF sumH x = some (g, n, t) ∧ g < 4294967296 ∧ n < 4294967296 ∧ e = .returned (.tuple #[plV ⟨0, 0, g, n⟩, .string (textQ t), .bool true]))) := by
  obtain ⟨X, hX⟩ : ∃ X, textQ x = X := ⟨_, rfl⟩
  have hsz : X.size = x.length := by rw [← hX]; rfl
  have hpre := fun W => has_pre9 X ⟨#[77, 71]⟩ W
  have hlt := h.lt
  rw [show Lib.hasPrefix X.data.toList (⟨#[77, 71]⟩ : ByteArray).data.toList = decide (x.take 2 = [77, 71]) by rw [← hX]; exact pre_take x [77, 71]] at hpre
  rw [hX]
  have hk2 : ∀ o1 o2, WholeKept N Nd m st w ((w.alloc o1).alloc o2) := fun o1 o2 => ⟨cs, (h.alloc o1).alloc o2, hc, Turned.of_below (((Below.refl _ w).alloc (Nat.le_refl _) o1).alloc (by simp) o2) (Nat.le_refl _)⟩
  have Hk2 := Lib.hid hk2
  have H := Lib.hid (And.intro h hc)
  have HX := Lib.hid hX
  clear h hc hX hk2
  by_cases c1 : x.take 2 = [77, 71]
  case neg =>
    rw [decide_eq_false c1] at hpre
    have hno : readF sumH x = none := by unfold readF; rw [if_pos c1]
    have Hno := Lib.hid hno
    clear hno c1
    go_enter Tryz.func73, Tryz.ntmps73
    go_wp2_with (go_at_call 57; refine (hpre _).mono ?_; rintro e w' ⟨rfl, rfl⟩)
    exact bodyPost_ret (v := .tuple #[plV ⟨0, 0, 0, 0⟩, .string ⟨#[]⟩, .bool false]) (by simp [results, Tryz.results73, go_sem, plV, plCells]) rfl ⟨Hk2.out _ _, .inl ⟨Hno.out, rfl⟩⟩
  have h64' : 64 ≤ x.length := h64.resolve_left (fun e => by rw [e] at c1; cases c1)
  rw [decide_eq_true c1] at hpre
  obtain ⟨M, hM⟩ : ∃ M, X.extract 63 64 = M := ⟨_, rfl⟩
  have hMx : M = textQ ((x.drop 63).take 1) := by rw [← hM, ← HX.out, extract_text]
  have h64s : 64 ≤ X.size := by omega
  by_cases c2 : (x.drop 63).take 1 = [77]
  case neg =>
    have q2 : (M.toList == [77]) = false := by rw [Lib.toList_data, beq_eq_false_iff_ne, hMx]; exact c2
    have hno : readF sumH x = none := by unfold readF; rw [if_neg (fun e => e c1), if_pos c2]
    have Hno := Lib.hid hno
    clear hno c1 c2 hMx
    go_enter Tryz.func73, Tryz.ntmps73
    go_wp2_with (go_at_call 57; refine (hpre _).mono ?_; rintro e w' ⟨rfl, rfl⟩)
    exact bodyPost_ret (v := .tuple #[plV ⟨0, 0, 0, 0⟩, .string ⟨#[]⟩, .bool false]) (by simp [results, Tryz.results73, go_sem, plV, plCells]) rfl ⟨Hk2.out _ _, .inl ⟨Hno.out, rfl⟩⟩
  have q2 : (M.toList == [77]) = true := by rw [Lib.toList_data, beq_iff_eq, hMx]; exact c2
  have htold : ∀ (W : World) (k : Nat), k ≤ 2 → W.cell? ⟨w.heap.size, 0, none⟩ = some (.string X) → Calls Tryz.prog 99 #[.int .i64 (k : Int), .pointer (some ⟨w.heap.size, 0, none⟩)] W fun e w' => e = .returned (.int .u32 (valF 0 ((x.drop (2 + 4 * k)).take 4) : Nat)) ∧ w' = W := fun W k hk hW =>
    told_any w.heap.size k hk x (by omega) (by omega) W (by rw [HX.out]; exact hW)
  have hval : ∀ k, valF 0 ((x.drop (2 + 4 * k)).take 4) < 4294967296 := fun k => valF_four _ (by rw [List.length_take]; omega)
  obtain ⟨L, hL⟩ : ∃ L, valF 0 ((x.drop 10).take 4) = L := ⟨_, rfl⟩
  have hLb : L < 4294967296 := by rw [← hL]; exact hval 2
  have hrd : readF sumH x = if x.length < L then none else if x.length < 64 * secN L then none
      else if sumH ((x.take 63 ++ (x.drop 64).take (64 * secN L - 64)).take (14 + L)) ≠ ((x.take 63 ++ (x.drop 64).take (64 * secN L - 64)).drop (14 + L)).take 32 then none
      else some (valF 0 ((x.drop 2).take 4), valF 0 ((x.drop 6).take 4), ((x.take 63 ++ (x.drop 64).take (64 * secN L - 64)).drop 14).take L) := by
    unfold readF
    rw [if_neg (fun e => e c1), if_neg (fun e => e c2), hL]
  have ht2 : ∀ (W : World), W.cell? ⟨w.heap.size, 0, none⟩ = some (.string X) → Calls Tryz.prog 99 #[.int .i64 2, .pointer (some ⟨w.heap.size, 0, none⟩)] W fun e w' => e = .returned (.int .u32 (L : Int)) ∧ w' = W := fun W hW => by
    have := htold W 2 (by omega) hW
    rw [show 2 + 4 * 2 = 10 from rfl, hL] at this
    exact this
  have HR := Lib.hid hrd
  have HT := Lib.hid htold
  have HT2 := Lib.hid ht2
  have Hval := Lib.hid hval
  have H2 := Lib.hid hMx
  clear hrd htold ht2 hval hMx c1 c2 hL
  have hcu : IntKind.u32.wrap (X.size : Int) = (X.size : Int) := by
    unfold IntKind.wrap
    simp [IntKind.bits, IntKind.signed]
    omega
  have hbox : ((w.alloc (.cells #[.string X] 9)).alloc (.cells #[.int .i64 0, .int .i64 0, .int .u32 0, .int .u32 0] 92)).heap[w.heap.size]? = some (.cells #[.string X] 9 (0, 0)) := by
    rw [heap_oldX _ _ (by simp)]
    exact heap_alloc_new w _
  have hpl : ((w.alloc (.cells #[.string X] 9)).alloc (.cells #[.int .i64 0, .int .i64 0, .int .u32 0, .int .u32 0] 92)).heap[w.heap.size + 1]? = some (.cells #[.int .i64 0, .int .i64 0, .int .u32 0, .int .u32 0] 92 (0, 0)) := by
    have := heap_alloc_new (w.alloc (.cells #[.string X] 9)) (.cells #[.int .i64 0, .int .i64 0, .int .u32 0, .int .u32 0] 92)
    simpa using this
  have hb2 : Below w.heap.size w ((w.alloc (.cells #[.string X] 9)).alloc (.cells #[.int .i64 0, .int .i64 0, .int .u32 0, .int .u32 0] 92)) := ((Below.refl _ w).alloc (Nat.le_refl _) _).alloc (by simp) _
  have hkp : ∀ W, Below w.heap.size w W → ∀ v0 v1 v2 v3, WholeKept N Nd m st w ((((W.setCell ⟨w.heap.size + 1, 0, none⟩ v0).setCell ⟨w.heap.size + 1, 1, none⟩ v1).setCell ⟨w.heap.size + 1, 2, none⟩ v2).setCell ⟨w.heap.size + 1, 3, none⟩ v3) := fun W hW v0 v1 v2 v3 => by
    have hb := (((hW.setCell (p := ⟨w.heap.size + 1, 0, none⟩) (by show w.heap.size ≤ w.heap.size + 1; omega) v0).setCell (p := ⟨w.heap.size + 1, 1, none⟩) (by show w.heap.size ≤ w.heap.size + 1; omega) v1).setCell (p := ⟨w.heap.size + 1, 2, none⟩) (by show w.heap.size ≤ w.heap.size + 1; omega) v2).setCell (p := ⟨w.heap.size + 1, 3, none⟩) (by show w.heap.size ≤ w.heap.size + 1; omega) v3
    exact ⟨cs, H.out.1.below hb hlt, H.out.2, Turned.of_below hb (Nat.le_refl _)⟩
  have HKP := Lib.hid hkp
  clear hkp Hk2
  go_enter Tryz.func73, Tryz.ntmps73
  go_wp2_with (go_at_call 57; refine (hpre _).mono ?_; rintro e w' ⟨rfl, rfl⟩)
  generalize (w.alloc (.cells #[.string X] 9)).alloc (.cells #[.int .i64 0, .int .i64 0, .int .u32 0, .int .u32 0] 92) = w2 at hbox hpl hb2 ⊢
  have hbx : w2.cell? ⟨w.heap.size, 0, none⟩ = some (.string X) := by rw [Lib.cell_of_heap hbox]; rfl
  have Hbx := Lib.hid (And.intro hbox (And.intro hpl hb2))
  clear hpl hb2 hbox hpre
  go_quiet (first | (go_at_call 99; exact Calls.quiet_of_same (HT2.out _ (by exact hbx))))
  obtain ⟨hbox, hpl, hb2⟩ := Hbx.out
  have hb3 := below_drewN hb2 nq
  replace hbox : (w2.drewN nq).heap[w.heap.size]? = some (.cells #[.string X] 9 (0, 0)) := hbox
  replace hpl : (w2.drewN nq).heap[w.heap.size + 1]? = some (.cells #[.int .i64 0, .int .i64 0, .int .u32 0, .int .u32 0] 92 (0, 0)) := hpl
  clear hb2 hbx Hbx
  generalize w2.drewN nq = w3 at hbox hpl hb3 ⊢
  obtain ⟨p0, p1, p2, p3, pf⟩ := cells_four9 hpl
  have hbx : w3.cell? ⟨w.heap.size, 0, none⟩ = some (.string X) := by rw [Lib.cell_of_heap hbox]; rfl
  have HB := Lib.hid hb3
  have HBX := Lib.hid (And.intro hbox hpl)
  clear hb3 hbox hpl
  by_cases c3 : x.length < L
  · have hno : readF sumH x = none := by rw [HR.out, if_pos c3]
    have c3' : (X.size : Int) < (L : Int) := by omega
    have Hno := Lib.hid hno
    clear hno c3
    go_wp2_with fail
    exact bodyPost_ret (v := .tuple #[plV ⟨0, 0, 0, 0⟩, .string ⟨#[]⟩, .bool false]) (by simp [results, Tryz.results73, go_sem, plV, plCells, p0, p1, p2, p3]) rfl ⟨HKP.out _ HB.out _ _ _ _, .inl ⟨Hno.out, rfl⟩⟩
  have c3' : (L : Int) ≤ (X.size : Int) := by omega
  have hroom := fun W => room_any L (by omega) W
  have hsn : secN L ≤ 100000 := by unfold secN; omega
  have hci : IntKind.i64.wrap (L : Int) = (L : Int) := IntWalk.i64_in _ (by omega)
  have hpos := secN_pos L
  by_cases c4 : x.length < 64 * secN L
  · have hno : readF sumH x = none := by rw [HR.out, if_neg c3, if_pos c4]
    have c4' : (X.size : Int) < (secN L : Int) * 64 := by omega
    have Hno := Lib.hid hno
    have ht := HT2.out w3 hbx
    clear hno c3 c4
    generalize secN L = S at *
    go_wp2_with (first | (go_at_call 99; refine ht.mono ?_; rintro e w9 ⟨rfl, h9⟩; obtain rfl := h9.symm; clear h9) | (go_at_call 64; refine (hroom _).mono ?_; rintro e w9 ⟨rfl, h9⟩; obtain rfl := h9.symm; clear h9))
    exact bodyPost_ret (v := .tuple #[plV ⟨0, 0, 0, 0⟩, .string ⟨#[]⟩, .bool false]) (by simp [results, Tryz.results73, go_sem, plV, plCells, p0, p1, p2, p3]) rfl ⟨HKP.out _ HB.out _ _ _ _, .inl ⟨Hno.out, rfl⟩⟩
  have c4' : (secN L : Int) * 64 ≤ (X.size : Int) := by omega
  have ht := HT2.out w3 hbx
  obtain ⟨b, hb⟩ : ∃ b, x.take 63 ++ (x.drop 64).take (64 * secN L - 64) = b := ⟨_, rfl⟩
  have hbl : b.length = 64 * secN L - 1 := by
    rw [← hb, List.length_append, List.length_take, List.length_take, List.length_drop]
    omega
  have hSL : 47 + L ≤ 64 * secN L := by unfold secN; omega
  have hrd2 : readF sumH x = if sumH (b.take (14 + L)) ≠ (b.drop (14 + L)).take 32 then none else some (valF 0 ((x.drop 2).take 4), valF 0 ((x.drop 6).take 4), (b.drop 14).take L) := by
    rw [HR.out, if_neg c3, if_neg c4, hb]
  have hY : X.extract 0 63 ++ X.extract 64 (secN L * 64) = textQ b := by
    rw [← HX.out, extract_text, extract_text, ← hb, show 63 - 0 = 63 from rfl, List.drop_zero, show secN L * 64 - 64 = 64 * secN L - 64 by omega]
    rfl
  obtain ⟨Y, hYd⟩ : ∃ Y, textQ b = Y := ⟨_, rfl⟩
  rw [hYd] at hY
  have hYs : Y.size = b.length := by rw [← hYd]; rfl
  have HR2 := Lib.hid hrd2
  have HYd := Lib.hid hYd
  have hadd : ∀ W : World, (Op.stringOp .add (X.extract 0 63) (X.extract 64 (secN L * 64))).run Tryz.prog W = .ok (.string Y) W := fun W => by
    rw [← hY]
    exact run_string_add_sum (a := X.extract 0 63) (b := X.extract 64 (secN L * 64)) (h := by rw [ByteArray.size_extract, ByteArray.size_extract]; omega) ..
  have Hadd := Lib.hid hadd
  clear hrd2 hY hYd hadd c3 c4 hb
  generalize secN L = S at *
  go_wp2_with (first | (go_at_call 99; refine ht.mono ?_; rintro e w9 ⟨rfl, h9⟩; obtain rfl := h9.symm; clear h9) | (go_at_call 64; refine (hroom _).mono ?_; rintro e w9 ⟨rfl, h9⟩; obtain rfl := h9.symm; clear h9))
  have hadd := Hadd.out
  have e1 : (64 : Int) ≤ (S : Int) * 64 := by omega
  have e2 : ((S : Int) * 64).toNat = S * 64 := by omega
  go_quiet (fail)
  obtain ⟨hbox, hpl⟩ := HBX.out
  have hb3 := below_drewN HB.out nq
  replace hbox : (w3.drewN nq).heap[w.heap.size]? = some (.cells #[.string X] 9 (0, 0)) := hbox
  replace hpl : (w3.drewN nq).heap[w.heap.size + 1]? = some (.cells #[.int .i64 0, .int .i64 0, .int .u32 0, .int .u32 0] 92 (0, 0)) := hpl
  clear HBX HB p0 p1 p2 p3 pf hbx hadd ht
  generalize w3.drewN nq = w4 at hbox hpl hb3 ⊢
  have Hh4 := Lib.hid (And.intro hbox (And.intro hpl hb3))
  clear hbox hpl hb3
  have hh4 := H.out.1.below Hh4.out.2.2 hlt
  obtain ⟨Q, hQ⟩ : ∃ Q, 14 + L = Q := ⟨_, rfl⟩
  obtain ⟨P, hP⟩ : ∃ P, Q + 32 = P := ⟨_, rfl⟩
  rw [hQ] at HR2
  have hQi : (14 : Int) + (L : Int) = (Q : Int) := by omega
  have hsum := sum_any N cs (Y.extract 0 Q) (by rw [ByteArray.size_extract]; omega) w4.drew (show Held9 w4.drew N cs _ from hh4) H.out.2.once
  obtain ⟨D, hD⟩ : ∃ D, textQ (sumH (Y.extract 0 Q).data.toList) = D := ⟨_, rfl⟩
  rw [hD] at hsum
  obtain ⟨E, hE⟩ : ∃ E, Y.extract Q P = E := ⟨_, rfl⟩
  have HD := Lib.hid (And.intro hD (And.intro hE (And.intro hQ hP)))
  have hyb : P ≤ Y.size := by omega
  clear hD hh4 hYs
  go_wp2_with fail
  have k2 : IntKind.i64.wrap ((Q : Int) + 32) = (P : Int) := by rw [show (Q : Int) + 32 = (P : Int) by omega]; exact IntWalk.i64_in _ (by omega)
  have k5 : (0 : Int) ≤ (Q : Int) := by omega
  have k6 : (Q : Int) ≤ (Y.size : Int) := by omega
  have k7 : (P : Int) ≤ (Y.size : Int) := by omega
  have k8 : (Q : Int) ≤ (P : Int) := by omega
  have k9 : (0 : Int) ≤ (P : Int) := by omega
  go_region_held3 (fun _ => True) (trivial) ((go_at_call 100; (with_reducible refine hsum.mono ?_); rintro e w5 ⟨rfl, cs5, hh5, ho5, hl5, ht5⟩))
  rename_i hHeld
  clear hHeld k2 k5 k6 k7 k8 k9 hsum
  have hbox5 := ht5.heap (show w4.drew.heap[w.heap.size]? = _ from Hh4.out.1) (fun e => by omega)
  have hpl5 := ht5.heap (show w4.drew.heap[w.heap.size + 1]? = _ from Hh4.out.2.1) (fun e => by omega)
  have hk5 : ∀ v0 v1 v2 v3, WholeKept N Nd m st w ((((w5.setCell ⟨w.heap.size + 1, 0, none⟩ v0).setCell ⟨w.heap.size + 1, 1, none⟩ v1).setCell ⟨w.heap.size + 1, 2, none⟩ v2).setCell ⟨w.heap.size + 1, 3, none⟩ v3) := fun v0 v1 v2 v3 => by
    have t : Turned (fun b => b = w.heap.size + 1) w5 ((((w5.setCell ⟨w.heap.size + 1, 0, none⟩ v0).setCell ⟨w.heap.size + 1, 1, none⟩ v1).setCell ⟨w.heap.size + 1, 2, none⟩ v2).setCell ⟨w.heap.size + 1, 3, none⟩ v3) :=
      (((Turned.set (S := fun b => b = w.heap.size + 1) rfl).trans (Turned.set (S := fun b => b = w.heap.size + 1) rfl) (fun b hb => .inl hb)).trans (Turned.set (S := fun b => b = w.heap.size + 1) rfl) (fun b hb => .inl hb)).trans (Turned.set (S := fun b => b = w.heap.size + 1) rfl) (fun b hb => .inl hb)
    have t0 : Turned (fun b => b = N) w w5 := (Turned.of_below (S := fun b => b = N) (below_drewN Hh4.out.2.2 1) (Nat.le_refl _)).trans ht5 (fun b hb => .inl hb)
    exact ⟨cs5, t.heap hh5 (fun e => by omega), H.out.2.of ho5 hl5, t0.trans t (fun b hb => .inr (by omega))⟩
  have HK5 := Lib.hid hk5
  obtain ⟨p0, p1, p2, p3, pf⟩ := cells_four9 hpl5
  have hbx : w5.cell? ⟨w.heap.size, 0, none⟩ = some (.string X) := by rw [Lib.cell_of_heap hbox5]; rfl
  have hDE : D.data.toList = sumH (b.take Q) ∧ E.data.toList = (b.drop Q).take 32 := by
    obtain ⟨d1, d2, _, d4⟩ := HD.out
    constructor
    · rw [← d1, ← HYd.out, extract_text, List.drop_zero, Nat.sub_zero]
      rfl
    · rw [← d2, ← HYd.out, extract_text, show P - Q = 32 by omega]
      rfl
  by_cases c5 : sumH (b.take Q) = (b.drop Q).take 32
  case neg =>
    have q5 : (D.toList == E.toList) = false := by rw [Lib.toList_data, Lib.toList_data, hDE.1, hDE.2, beq_eq_false_iff_ne]; exact c5
    have hno : readF sumH x = none := by rw [HR2.out, if_pos c5]
    have Hno := Lib.hid hno
    clear hno c5 hDE hk5 hh5 ho5 hl5 ht5 hpl5 hbox5 HD
    simp only [q5, Bool.not_false]
    go_wp2_with fail
    exact bodyPost_ret (v := .tuple #[plV ⟨0, 0, 0, 0⟩, .string ⟨#[]⟩, .bool false]) (by simp [results, Tryz.results73, go_sem, plV, plCells, p0, p1, p2, p3]) rfl ⟨HK5.out _ _ _ _, .inl ⟨Hno.out, rfl⟩⟩
  have q5 : (D.toList == E.toList) = true := by rw [Lib.toList_data, Lib.toList_data, hDE.1, hDE.2, beq_iff_eq]; exact c5
  obtain ⟨g9, hg9⟩ : ∃ g9, valF 0 ((x.drop 2).take 4) = g9 := ⟨_, rfl⟩
  obtain ⟨n9, hn9⟩ : ∃ n9, valF 0 ((x.drop 6).take 4) = n9 := ⟨_, rfl⟩
  have hgb : g9 < 4294967296 := by rw [← hg9]; exact Hval.out 0
  have hnb : n9 < 4294967296 := by rw [← hn9]; exact Hval.out 1
  have hyes : readF sumH x = some (g9, n9, (b.drop 14).take L) := by rw [HR2.out, if_neg (fun e => e c5), hg9, hn9]
  have hT : Y.extract 14 Q = textQ ((b.drop 14).take L) := by
    obtain ⟨_, _, d3, _⟩ := HD.out
    rw [← HYd.out, extract_text, show Q - 14 = L by omega]
  obtain ⟨T, hTd⟩ : ∃ T, Y.extract 14 Q = T := ⟨_, rfl⟩
  have ht0 := HT.out w5.drew 0 (by omega) (show w5.drew.cell? _ = _ from hbx)
  have ht1 := HT.out w5.drew 1 (by omega) (show w5.drew.cell? _ = _ from hbx)
  rw [show 2 + 4 * 0 = 2 from rfl, hg9, show ((0 : Nat) : Int) = 0 from rfl] at ht0
  rw [show 2 + 4 * 1 = 6 from rfl, hn9, show ((1 : Nat) : Int) = 1 from rfl] at ht1
  rw [hTd] at hT
  have Hyes := Lib.hid (And.intro hyes (And.intro hT (And.intro hgb hnb)))
  clear hyes hT hgb hnb hg9 hn9 c5 hDE hk5 hh5 ho5 hl5 ht5 hpl5 hbox5 HD
  simp only [q5, Bool.not_true]
  go_wp2_with fail
  have k1 : (14 : Int) ≤ (Q : Int) := by omega
  have k2 : (Q : Int) ≤ (Y.size : Int) := by omega
  go_region_held3 (fun _ => True) (trivial) (first | (go_at_call 99; (with_reducible refine ht0.mono ?_); rintro e w9 ⟨rfl, h9⟩; obtain rfl := h9.symm; clear h9) | (go_at_call 99; (with_reducible refine ht1.mono ?_); rintro e w9 ⟨rfl, h9⟩; obtain rfl := h9.symm; clear h9))
  go_wp2_with fail
  exact bodyPost_ret (v := .tuple #[plV ⟨0, 0, g9, n9⟩, .string T, .bool true]) (by simp [results, Tryz.results73, go_sem, plV, plCells, p0, p1, p2, p3]) rfl ⟨(HK5.out _ _ _ _).drew, .inr ⟨g9, n9, _, Hyes.out.1, Hyes.out.2.2.1, Hyes.out.2.2.2, by rw [Hyes.out.2.1]⟩⟩
end Go.Proofs.YtgpdplffljidbaaGreatDoor
