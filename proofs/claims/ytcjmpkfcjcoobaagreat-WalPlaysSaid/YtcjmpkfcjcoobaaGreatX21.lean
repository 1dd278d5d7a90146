/-
  Texts of this proof, put together: St1.
-/
import Derived.Test.YtcjmpkfcjcoobaaGreatX19
import Derived.Test.YtcjmpkfcjcoobaaGreatX11
import Derived.Test.YtcjmpkfcjcoobaaGreatX12
import Derived.Deep.RegionHeld3
namespace Go.Proofs.YtcjmpkfcjcoobaaGreat
open Go.RowKit Go.Maps

/-- Where a record lies, and what it tells of itself. -/
structure PlP where
  half : Nat
  at_ : Nat
  gen : Nat
  num : Nat
def plCells (p : PlP) : Array Value := #[.int .i64 (p.half : Int), .int .i64 (p.at_ : Int), .int .u32 (p.gen : Int), .int .u32 (p.num : Int)]
def plV (p : PlP) : Value := .agg (plCells p)
/-- .. behind a text of so many bytes. -/
def plNext (p : PlP) (n : Nat) : PlP := ⟨p.half, p.at_ + secN n, p.gen, p.num + 1⟩

set_option maxRecDepth 100000 in
set_option maxHeartbeats 1000000 in
theorem room_any (n : Nat) (h : n ≤ 1000000000) (w : World) :
    Calls Tryz.prog 61 #[.int .i64 (n : Int)] w fun e w' => e = .returned (.int .i64 (secN n : Nat)) ∧ w' = w := by
  have hs : (14 + (n : Int) + 32 + 1 + 64 - 1) / 64 = (secN n : Int) := by unfold secN; omega
  go_enter Tryz.func61, Tryz.ntmps61
  go_wp2
  go_ret
  refine ⟨?_, rfl⟩
  show Ending.returned (Value.int .i64 ((14 + (n : Int) + 32 + 1 + 64 - 1) / 64)) = _
  rw [hs]

set_option maxRecDepth 100000 in
set_option maxHeartbeats 4000000 in
theorem behind_any (p : PlP) (n : Nat) (h : n ≤ 1000000000) (ha : p.at_ ≤ 1000000000) (hn : p.num < 4294967295) (w : World) :
    Calls Tryz.prog 59 #[plV p, .int .i64 (n : Int)] w fun e w' => e = .returned (plV (plNext p n)) ∧ Below w.heap.size w w' := by
  obtain ⟨half, at_, gen, num⟩ := p
  have hroom := fun w => room_any n h w
  have hs : secN n ≤ 100000000 := by unfold secN; omega
  simp only [plV, plCells, plNext] at ha hn ⊢
  obtain ⟨k, hk⟩ : ∃ k, secN n = k := ⟨_, rfl⟩
  rw [hk] at hs hroom ⊢
  clear hk
  have k1 : IntKind.i64.wrap ((at_ : Int) + (k : Int)) = (at_ : Int) + (k : Int) := IntWalk.i64_in _ (by omega)
  have k2 : IntKind.u32.wrap ((num : Int) + 1) = (num : Int) + 1 := by rw [IntKind.wrap_u32']; omega
  go_enter Tryz.func59, Tryz.ntmps59
  go_wp2
  go_region_held3 (fun W => W.cell? ⟨w.heap.size, 0, none⟩ = some (.int .i64 (half : Int)) ∧ W.cell? ⟨w.heap.size, 1, none⟩ = some (.int .i64 (at_ : Int)) ∧ W.cell? ⟨w.heap.size, 2, none⟩ = some (.int .u32 (gen : Int)) ∧ W.cell? ⟨w.heap.size, 3, none⟩ = some (.int .u32 (num : Int))) ((go_simp; done)) ((go_at_call 61; refine (hroom _).mono ?_; rintro e w9 ⟨rfl, rfl⟩))
  rename_i hHeld
  clear hHeld
  go_wp2
  have hnew := heap_alloc_new (w.alloc (.cells #[.int .i64 (half : Int), .int .i64 (at_ : Int), .int .u32 (gen : Int), .int .u32 (num : Int)] 86)) (.cells #[.int .i64 (half : Int), .int .i64 ((at_ : Int) + (k : Int)), .int .u32 (gen : Int), .int .u32 ((num : Int) + 1)] 86)
  rw [show (w.alloc (.cells #[.int .i64 (half : Int), .int .i64 (at_ : Int), .int .u32 (gen : Int), .int .u32 (num : Int)] 86)).heap.size = w.heap.size + 1 by simp] at hnew
  have hb : Below w.heap.size w ((w.alloc (.cells #[.int .i64 (half : Int), .int .i64 (at_ : Int), .int .u32 (gen : Int), .int .u32 (num : Int)] 86)).alloc (.cells #[.int .i64 (half : Int), .int .i64 ((at_ : Int) + (k : Int)), .int .u32 (gen : Int), .int .u32 ((num : Int) + 1)] 86)).drew := below_drewN (((Below.refl _ w).alloc (Nat.le_refl _) _).alloc (by simp) _) 1
  refine bodyPost_ret (v := .agg #[.int .i64 (half : Int), .int .i64 ((at_ : Int) + (k : Int)), .int .u32 (gen : Int), .int .u32 ((num : Int) + 1)]) (results_cell_row rfl _ _ (w.heap.size + 1) 86 _ (0, 0) _ ?_ hnew Tryz.underlying86 rfl ?_) rfl ⟨?_, hb⟩
  · rfl
  · kernel_rfl
  · push_cast
    rfl

set_option maxRecDepth 100000 in
set_option maxHeartbeats 4000000 in
theorem fits_any (N sz : Nat) (p : PlP) (s : ByteArray) (hs : s.size ≤ 1000000000) (ha : p.at_ ≤ 1000000000) (w : World) (c2 : w.cell? ⟨N, 2, none⟩ = some (.int .i64 (sz : Int))) (hN : N < w.heap.size) :
    Calls Tryz.prog 42 #[.pointer (some ⟨N, 0, none⟩), plV p, .string s] w fun e w' => e = .returned (.bool (decide (p.at_ + secN s.size ≤ sz))) ∧ Below w.heap.size w w' := by
  obtain ⟨half, at_, gen, num⟩ := p
  have hroom := fun w => room_any s.size hs w
  have hss : secN s.size ≤ 100000000 := by unfold secN; omega
  simp only [plV, plCells] at ha ⊢
  obtain ⟨k, hk⟩ : ∃ k, secN s.size = k := ⟨_, rfl⟩
  rw [hk] at hss hroom ⊢
  have hne : N ≠ w.heap.size := by omega
  have k1 : IntKind.i64.wrap ((at_ : Int) + (k : Int)) = (at_ : Int) + (k : Int) := IntWalk.i64_in _ (by omega)
  have k3 : decide ((at_ : Int) + (k : Int) ≤ (sz : Int)) = decide (at_ + k ≤ sz) := by rw [decide_eq_decide]; omega
  have hb0 := (Below.refl w.heap.size w).alloc (Nat.le_refl _) (.cells #[.int .i64 (half : Int), .int .i64 (at_ : Int), .int .u32 (gen : Int), .int .u32 (num : Int)] 86)
  have K3 := Lib.hid k3
  have Hb0 := Lib.hid hb0
  clear hk k3 hb0
  go_enter Tryz.func42, Tryz.ntmps42
  go_wp2
  go_quiet ((go_at_call 61; exact Calls.quiet_of_same (hroom _)))
  go_wp2
  go_ret
  refine ⟨?_, below_drewN Hb0.out nq⟩
  show Ending.returned (Value.bool (decide ((at_ : Int) + (k : Int) ≤ (sz : Int)))) = _
  rw [K3.out]

/-- A store, but for its keys and values. -/
structure StP where
  fr : Nat
  sz : Nat
  pl : PlP
  lost : Bool
/-- Its cells: the disk's block, the map's. -/
structure CellsOk (cs : Array Value) (Nd m : Nat) (s : StP) : Prop where
  c0 : cs[0]? = some (.pointer (some ⟨Nd, 0, none⟩))
  c1 : cs[1]? = some (.int .i64 (s.fr : Int))
  c2 : cs[2]? = some (.int .i64 (s.sz : Int))
  c3 : cs[3]? = some (.int .i64 (s.pl.half : Int))
  c4 : cs[4]? = some (.int .i64 (s.pl.at_ : Int))
  c5 : cs[5]? = some (.int .u32 (s.pl.gen : Int))
  c6 : cs[6]? = some (.int .u32 (s.pl.num : Int))
  c7 : cs[7]? = some (.map (some m))
  c8 : cs[8]? = some (.bool s.lost)
  once : OnceOk cs
/-- Another nine first cells. -/
theorem CellsOk.of {cs cs' : Array Value} {Nd m : Nat} {s : StP} (h : CellsOk cs Nd m s) (ho : OnceOk cs') (hl : ∀ j, j < 9 → cs'[j]? = cs[j]?) : CellsOk cs' Nd m s :=
  ⟨(hl 0 (by decide)).trans h.c0, (hl 1 (by decide)).trans h.c1, (hl 2 (by decide)).trans h.c2, (hl 3 (by decide)).trans h.c3, (hl 4 (by decide)).trans h.c4, (hl 5 (by decide)).trans h.c5, (hl 6 (by decide)).trans h.c6, (hl 7 (by decide)).trans h.c7, (hl 8 (by decide)).trans h.c8, ho⟩

set_option maxRecDepth 100000 in
set_option maxHeartbeats 4000000 in
theorem wwrite_any (B N Nd g m : Nat) (cs : Array Value) (st : StP) (d : Dk) (w : World) (h : Held9 w N cs 102) (hc : CellsOk cs Nd m st) (hd : DiskAt w B Nd g d) (hB : B ≤ w.heap.size) (hwr : d.wr ≤ 1000000)
    (half at_ : Nat) (hf : st.fr ≤ 100000) (hz : st.sz ≤ 100000) (hh : half ≤ 1) (hat : at_ ≤ 100000) (s : ByteArray) (hs : s.size ≤ maxLen) :
    Calls Tryz.prog 36 #[.pointer (some ⟨N, 0, none⟩), .int .i64 (half : Int), .int .i64 (at_ : Int), .string s] w fun e w' =>
      e = .returned (.int .i64 (if st.lost then 6 else sayD d ((st.fr + half * st.sz + at_ : Nat) : Int) s.data.toList)) ∧ DiskAt w' B Nd g (if st.lost then d else writeD d ((st.fr + half * st.sz + at_ : Nat) : Int) s.data.toList) ∧ Turned (mineD Nd g) w w' := by
  obtain ⟨fr, sz, pl, lost⟩ := st
  have c8 := h.cell 8
  rw [hc.c8] at c8
  cases lost with
  | true =>
    have H := Lib.hid hd
    clear h hd hc
    go_enter Tryz.func36, Tryz.ntmps36
    go_wp2
    go_ret
    exact ⟨rfl, H.out, Turned.refl _ _⟩
  | false =>
    have c0 := h.cell 0
    rw [hc.c0] at c0
    have c1 := h.cell 1
    rw [hc.c1] at c1
    have c2 := h.cell 2
    rw [hc.c2] at c2
    simp only at hf hz c1 c2 ⊢
    simp only [Bool.false_eq_true, if_false]
    have hmul : half * sz ≤ 100000 := by
      rcases Nat.le_one_iff_eq_zero_or_eq_one.1 hh with rfl | rfl <;> omega
    obtain ⟨q, hq⟩ : ∃ q, half * sz = q := ⟨_, rfl⟩
    have hqi : (half : Int) * (sz : Int) = (q : Int) := by rw [← hq]; push_cast; rfl
    have k0 : IntKind.i64.wrap ((half : Int) * (sz : Int)) = (q : Int) := by rw [hqi]; exact IntWalk.i64_in _ (by omega)
    rw [hq] at hmul ⊢
    have k1 : IntKind.i64.wrap ((fr : Int) + (q : Int)) = (fr : Int) + (q : Int) := IntWalk.i64_in _ (by omega)
    have k2 : IntKind.i64.wrap ((fr : Int) + (q : Int) + (at_ : Int)) = (fr : Int) + (q : Int) + (at_ : Int) := IntWalk.i64_in _ (by omega)
    have hwd := swrite_any B Nd g d w.drew hd.drew hB hwr ((fr : Int) + (q : Int) + (at_ : Int)) s hs
    rw [show ((fr + q + at_ : Nat) : Int) = (fr : Int) + (q : Int) + (at_ : Int) by push_cast; rfl]
    clear hq h hd hc hqi hmul hf hz hh hat
    go_enter Tryz.func36, Tryz.ntmps36
    go_wp2
    go_still_tail 18, (by kernel_rfl)
    go_wp2_with (go_at_call 26; refine hwd.mono ?_; rintro e w2 ⟨rfl, hd2, ht2⟩)
    go_ret
    exact ⟨rfl, hd2, (Turned.drew (S := mineD Nd g)).trans ht2 (fun _ h => .inl h)⟩
end Go.Proofs.YtcjmpkfcjcoobaaGreat
