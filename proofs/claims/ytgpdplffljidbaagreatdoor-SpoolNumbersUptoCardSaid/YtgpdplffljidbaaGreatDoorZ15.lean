/-
  Texts of this proof, put together: Sh8, St1.
-/
import Derived.Test.YtgpdplffljidbaaGreatDoorZ14
import Derived.Test.YtgpdplffljidbaaGreatDoorZ03
import Derived.Test.YtgpdplffljidbaaGreatDoorZ04
import Derived.Test.YtgpdplffljidbaaGreatDoorZ09
import Derived.Deep.RegionHeld3
namespace Go.Proofs.YtgpdplffljidbaaGreatDoor
open Go.RowKit Go.Maps

theorem Held9.below {w w' : World} {b B : Nat} {cs : Array Value} {T : TypeId} (h : Held9 w b cs T) (hb : Below B w w') (hB : b < B) : Held9 w' b cs T := (hb.block b hB).trans h
theorem grown_set9 {w w0 : World} {b : Nat} (h : w0.grownBy w (some b)) (j : Nat) (v : Value) : w0.grownBy (w.setCell ⟨b, j, none⟩ v) (some b) :=
  ⟨h.os, h.tape, h.output, by simpa [World.setCell] using h.size, fun i hi hne => (Below.heap_setCell w ⟨b, j, none⟩ v i (fun e => hne (by rw [e]))).trans (h.block i hi hne)⟩
theorem grown_drew9 {w w0 : World} {b : Nat} (h : w0.grownBy w (some b)) : w0.grownBy w.drew (some b) := ⟨h.os, h.tape, h.output, h.size, h.block⟩
theorem grown_refl9 (w : World) (b : Option Nat) : w.grownBy w b := ⟨rfl, rfl, rfl, Nat.le_refl _, fun _ _ _ => rfl⟩

set_option maxRecDepth 100000 in
set_option maxHeartbeats 1600000 in
theorem slow9 (N : Nat) (cs : Array Value) (T : TypeId) (w : World) (h : Held9 w N cs T) (hsz : cs.size = 84) (h9 : cs[9]? = some (.int .u32 0)) (h10 : cs[10]? = some (.int .i32 0)) (hw : Words72 cs 12) :
    Calls Tryz.prog 149 #[.pointer (some ⟨N, 9, none⟩), .func (.func 130) #[.pointer (some ⟨N, 12, none⟩)] #[]] w fun e w' => e = .returned (.tuple #[]) ∧ ∃ cs', Held9 w' N cs' T ∧ cs'.size = 84 ∧ cs'[9]? = some (.int .u32 1) ∧ cs'[10]? = some (.int .i32 0) ∧ Words72 cs' 12 ∧ TabOk cs' 12 primes64 ∧ (∀ j, j < 9 → cs'[j]? = cs[j]?) ∧ w.grownBy w' (some N) := by
  have hL := h.set 10 (.int .i32 1)
  have hg1 : w.grownBy (w.setCell ⟨N, 10, none⟩ (.int .i32 1)) (some N) := grown_set9 (grown_refl9 w _) 10 _
  have c3 := h.cell 10
  rw [h10] at c3
  have hlock := lock_any ⟨N, 10, none⟩ w c3 (h.frozen 10)
  have hs1 : (cs.setIfInBounds 10 (.int .i32 1)).size = 84 := by rw [Array.size_setIfInBounds]; exact hsz
  have hw1 : Words72 (cs.setIfInBounds 10 (.int .i32 1)) 12 := fun j hj => by
    rw [set_get9 _ _ _ _ (by omega), if_neg (by omega)]
    exact hw j hj
  have hlow1 : ∀ j, j < 9 → (cs.setIfInBounds 10 (.int .i32 1))[j]? = cs[j]? := fun j hj => by rw [set_get9 _ _ _ _ (by omega), if_neg (by omega)]
  have h91 : (cs.setIfInBounds 10 (.int .i32 1))[9]? = some (.int .u32 0) := by rw [set_get9 _ _ _ _ (by omega), if_neg (by omega)]; exact h9
  have h101 : (cs.setIfInBounds 10 (.int .i32 1))[10]? = some (.int .i32 1) := by rw [set_get9 _ _ _ _ (by omega), if_pos rfl]
  generalize cs.setIfInBounds 10 (.int .i32 1) = c1 at hL hs1 hw1 hlow1 h91 h101
  generalize w.setCell ⟨N, 10, none⟩ (.int .i32 1) = w1 at hlock hL hg1
  have c2 := hL.cell 9
  rw [h91] at c2
  have hl := bool_no ⟨N, 9, none⟩ w1 c2
  have hbuild := build_any N 12 c1 T w1 hL (by omega) hw1
  have hnot : ∀ (x : Bool) (w : World), (Op.unary .not (.bool x)).run Tryz.prog w = .ok (.bool (!x)) w := fun _ _ => rfl
  have H1 := Lib.hid (And.intro hs1 (And.intro hlow1 hg1))
  have H2 := Lib.hid h101
  clear h9 h10 hsz hs1 hlow1 h91 h101 hw1 hg1 hw
  go_enter_defers Tryz.func149, Tryz.ntmps149
  go_wp2_with (first | (go_at_call 162; refine hlock.mono ?_; rintro e w' ⟨rfl, hw9⟩; obtain rfl := hw9.symm; clear hw9) | (go_at_call 148; refine hl.mono ?_; rintro e w' ⟨rfl, hw9⟩; obtain rfl := hw9.symm; clear hw9) | (go_at_call 130; refine hbuild.mono ?_; rintro e w2 ⟨rfl, c2', hN, hsame, hwords, htab, hg2⟩))
  go_wp2
  have hz2 : c2'.size = 84 := by rw [hsame.1]; exact H1.out.1
  have q2 := hN.cell 9
  have hq9 : ∃ x, c2'[9]? = some x := ⟨c2'[9]'(by omega), Array.getElem?_eq_getElem (by omega)⟩
  obtain ⟨x9, hq9⟩ := hq9
  rw [hq9] at q2
  have r2 := hN.frozen 9
  refine leaves_cons (f := 164) (args := #[.pointer (some ⟨N, 9, none⟩), .bool true]) (by simp) (by simp [go_sem]) ?_
  refine (store_later ⟨N, 9, none⟩ x9 .returning _ q2 r2).mono ?_
  rintro e u' w3 ⟨rfl, rfl, rfl⟩
  have hN3 : Held9 (w2.drew.setCell ⟨N, 9, none⟩ (.int .u32 1)) N (c2'.setIfInBounds 9 (.int .u32 1)) T := Held9.set (w := w2.drew) hN 9 _
  have hg3 : w1.grownBy (w2.drew.setCell ⟨N, 9, none⟩ (.int .u32 1)) (some N) := grown_set9 (grown_drew9 hg2) 9 _
  have hz3 : (c2'.setIfInBounds 9 (.int .u32 1)).size = 84 := by rw [Array.size_setIfInBounds]; exact hz2
  have hat9 : (c2'.setIfInBounds 9 (.int .u32 1))[9]? = some (.int .u32 1) := by rw [set_get9 _ _ _ _ (by omega), if_pos rfl]
  have hot : ∀ j, j ≠ 9 → (c2'.setIfInBounds 9 (.int .u32 1))[j]? = c2'[j]? := fun j hj => by rw [set_get9 _ _ _ _ (by omega), if_neg hj]
  revert hN3 hg3
  generalize w2.drew.setCell ⟨N, 9, none⟩ (.int .u32 1) = w3
  generalize c2'.setIfInBounds 9 (.int .u32 1) = c3' at hz3 hat9 hot ⊢
  intro hN3 hg3
  have q3 := hN3.cell 10
  have hc10 : c3'[10]? = some (.int .i32 1) := by rw [hot 10 (by decide), hsame.2 10 (by decide)]; exact H2.out
  rw [hc10] at q3
  have r3 := hN3.frozen 10
  refine leaves_cons (f := 163) (args := #[.pointer (some ⟨N, 10, none⟩)]) (by simp [settle]) (by simp [go_sem]) ?_
  refine (unlock_later ⟨N, 10, none⟩ _ _ q3 r3).mono ?_
  rintro e u' w4 ⟨rfl, rfl, rfl⟩
  simp only [Leaves, settle]
  refine ⟨_, results_none rfl _ _ _, rfl, c3'.setIfInBounds 10 (.int .i32 0), hN3.set 10 _, by rw [Array.size_setIfInBounds]; exact hz3, ?_, ?_, ?_, ?_, ?_, ?_⟩
  · rw [set_get9 _ _ _ _ (by omega), if_neg (by omega)]; exact hat9
  · rw [set_get9 _ _ _ _ (by omega), if_pos rfl]
  · intro j hj
    rw [set_get9 _ _ _ _ (by omega), if_neg (by omega), hot _ (by omega)]
    exact hwords j hj
  · exact htab.out (fun j hj => by rw [set_get9 _ _ _ _ (by omega), if_neg (by omega), hot _ (by omega)]) (fun j hj _ => by rw [set_get9 _ _ _ _ (by omega), if_neg (by omega), hot _ (by omega)])
  · intro j hj
    rw [set_get9 _ _ _ _ (by omega), if_neg (by omega), hot _ (by omega), hsame.2 j (by omega)]
    exact H1.out.2.1 j hj
  · exact H1.out.2.2.trans (grown_set9 hg3 10 _)
theorem do_first9 (N : Nat) (cs : Array Value) (T : TypeId) (w : World) (h : Held9 w N cs T) (hsz : cs.size = 84) (h9 : cs[9]? = some (.int .u32 0)) (h10 : cs[10]? = some (.int .i32 0)) (hw : Words72 cs 12) :
    Calls Tryz.prog 129 #[.pointer (some ⟨N, 9, none⟩), .func (.func 130) #[.pointer (some ⟨N, 12, none⟩)] #[]] w fun e w' => e = .returned (.tuple #[]) ∧ ∃ cs', Held9 w' N cs' T ∧ cs'.size = 84 ∧ cs'[9]? = some (.int .u32 1) ∧ cs'[10]? = some (.int .i32 0) ∧ Words72 cs' 12 ∧ TabOk cs' 12 primes64 ∧ (∀ j, j < 9 → cs'[j]? = cs[j]?) ∧ w.grownBy w' (some N) := by
  have c2 := h.cell 9
  rw [h9] at c2
  have hl := bool_no ⟨N, 9, none⟩ w c2
  have hs := slow9 N cs T w h hsz h9 h10 hw
  have hnot : ∀ (x : Bool) (w : World), (Op.unary .not (.bool x)).run Tryz.prog w = .ok (.bool (!x)) w := fun _ _ => rfl
  clear h h9 h10 hsz hw
  go_enter Tryz.func129, Tryz.ntmps129
  go_wp2_with (first | (go_at_call 148; refine hl.mono ?_; rintro e w' ⟨rfl, rfl⟩) | (go_at_call 149; refine hs.mono ?_; rintro e w' ⟨rfl, hw⟩))
  go_end0
  exact ⟨rfl, hw⟩

theorem do_again9 (N : Nat) (fv : Value) (w : World) (c2 : w.cell? ⟨N, 9, none⟩ = some (.int .u32 1)) :
    Calls Tryz.prog 129 #[.pointer (some ⟨N, 9, none⟩), fv] w fun e w' => e = .returned (.tuple #[]) ∧ w' = w := by
  have hl := bool_yes ⟨N, 9, none⟩ w c2
  have hnot : ∀ (x : Bool) (w : World), (Op.unary .not (.bool x)).run Tryz.prog w = .ok (.bool (!x)) w := fun _ _ => rfl
  go_enter Tryz.func129, Tryz.ntmps129
  go_wp2_with (first | (go_at_call 148; refine hl.mono ?_; rintro e w' ⟨rfl, rfl⟩))
  go_end0
  exact ⟨rfl, rfl⟩

def ks64 : List Int := primes64.map cuF
def st64 : St8 := ⟨sqF (primes64.getD 0 0), sqF (primes64.getD 1 0), sqF (primes64.getD 2 0), sqF (primes64.getD 3 0), sqF (primes64.getD 4 0), sqF (primes64.getD 5 0), sqF (primes64.getD 6 0), sqF (primes64.getD 7 0)⟩
def sumH (l : List UInt8) : List UInt8 := digestP ks64 st64 l
theorem sumH_len (l : List UInt8) : (sumH l).length = 32 := digest_len _ _ _
theorem st64_wf : st64.wf := fun x hx => by
  have hb : ∀ n, 0 ≤ sqF n ∧ sqF n < 4294967296 := fun n => by unfold sqF; omega
  simp only [St8.list, st64, List.mem_cons, List.not_mem_nil, or_false] at hx
  rcases hx with rfl | rfl | rfl | rfl | rfl | rfl | rfl | rfl <;> exact hb _
theorem tab_at {w : World} {N : Nat} {cs : Array Value} {T : TypeId} (h : Held9 w N cs T) (ht : TabOk cs 12 primes64) : TabAt w N 12 ks64 ∧ StartAt w N 12 st64 := by
  have hl : primes64.length = 64 := primes_312
  constructor
  · intro j hj
    rw [h.cell, ht.ad j (by rw [hl]; exact hj)]
    congr 2
    unfold ks64
    rw [List.getElem?_map, List.getElem?_eq_getElem (by rw [hl]; exact hj)]
    rfl
  · intro j hj
    rw [h.cell, ht.st j (by rw [hl]; omega) hj]
    congr 2
    have hg : ∀ i (hi : i < primes64.length), primes64.getD i 0 = primes64[i] := fun i hi => by rw [List.getD_eq_getElem?_getD, List.getElem?_eq_getElem hi]; rfl
    have hh : ∀ i, i < 8 → (st64.list[i]?.getD 0) = sqF (primes64.getD i 0) := fun i hi => by
      match i, hi with
      | 0, _ => rfl
      | 1, _ => rfl
      | 2, _ => rfl
      | 3, _ => rfl
      | 4, _ => rfl
      | 5, _ => rfl
      | 6, _ => rfl
      | 7, _ => rfl
    rw [hh j hj, hg j (by rw [hl]; omega)]

structure OnceOk (cs : Array Value) : Prop where
  size : cs.size = 84
  lock : cs[10]? = some (.int .i32 0)
  words : Words72 cs 12
  tab : cs[9]? = some (.int .u32 0) ∨ (cs[9]? = some (.int .u32 1) ∧ TabOk cs 12 primes64)

set_option maxRecDepth 100000 in
set_option maxHeartbeats 4000000 in
theorem sum_any (N : Nat) (cs : Array Value) (s : ByteArray) (hs : s.size ≤ 1000000000) (w : World) (h : Held9 w N cs 110) (ho : OnceOk cs) :
    Calls Tryz.prog 100 #[.pointer (some ⟨N, 0, none⟩), .string s] w fun e w' => e = .returned (.string (textQ (sumH s.data.toList))) ∧ ∃ cs', Held9 w' N cs' 110 ∧ OnceOk cs' ∧ (∀ j, j < 9 → cs'[j]? = cs[j]?) ∧ Turned (fun b => b = N) w w' := by
  have hdo : Hid (∀ W : World, Held9 W N cs 110 → Calls Tryz.prog 129 #[.pointer (some ⟨N, 9, none⟩), .func (.func 130) #[.pointer (some ⟨N, 12, none⟩)] #[]] W fun e w' => e = .returned (.tuple #[]) ∧ ∃ cs', Held9 w' N cs' 110 ∧ OnceOk cs' ∧ TabOk cs' 12 primes64 ∧ (∀ j, j < 9 → cs'[j]? = cs[j]?) ∧ Turned (fun b => b = N) W w') := Lib.hid fun W hW => by
    rcases ho.tab with h9 | ⟨h9, ht⟩
    · refine (do_first9 N cs _ W hW ho.size h9 ho.lock ho.words).mono ?_
      rintro e w' ⟨rfl, cs', q1, q2, q3, q4, q5, q6, q7, q8⟩
      exact ⟨rfl, cs', q1, ⟨q2, q4, q5, .inr ⟨q3, q6⟩⟩, q6, q7, Turned.of_grown q8 (fun k e => by cases e; exact .inl rfl)⟩
    · refine (do_again9 N _ W (by rw [hW.cell]; exact h9)).mono ?_
      rintro e w' ⟨rfl, rfl⟩
      exact ⟨rfl, cs, hW, ho, ht, fun _ _ => rfl, Turned.refl _ _⟩
  have Hh := Lib.hid h
  clear h ho
  go_enter Tryz.func100, Tryz.ntmps100
  go_wp2
  go_region_held3 (fun _ => True) (trivial) ((go_at_call 129; refine (hdo.out w.drew (show Held9 w.drew N cs _ from Hh.out)).mono ?_; rintro e w9 ⟨rfl, cs', h1, h2, h3, h4, h5⟩))
  rename_i hHeld
  clear hHeld
  obtain ⟨t1, t2⟩ := tab_at h1 h3
  have hd := dsum_any N 12 ks64 st64 st64_wf s hs w9 t1 h1.lt t2
  have hlt := h1.lt
  have H := Lib.hid (And.intro h1 (And.intro h2 (And.intro h4 (And.intro h5 hlt))))
  clear h1 h2 h3 h4 h5 t1 t2 hdo Hh hlt
  go_wp2_with (go_at_call 131; refine hd.mono ?_; rintro e w3 ⟨rfl, hb3⟩)
  go_ret
  obtain ⟨q1, q2, q3, q4, q5⟩ := H.out
  refine ⟨rfl, cs', q1.below hb3 q5, q2, q3, ?_⟩
  have e1 : Turned (fun b => b = N) w w.drew := Turned.drew
  exact (e1.trans q4 (fun _ h => .inl h)).trans (T := fun _ => False) (Turned.of_below hb3 (Nat.le_refl _)) (fun _ h => h.elim)
end Go.Proofs.YtgpdplffljidbaaGreatDoor
namespace Go.Proofs.YtgpdplffljidbaaGreatDoor
open Go.RowKit Go.Maps

structure PlP where
  half : Nat
  at_ : Nat
  gen : Nat
  num : Nat
def plCells (p : PlP) : Array Value := #[.int .i64 (p.half : Int), .int .i64 (p.at_ : Int), .int .u32 (p.gen : Int), .int .u32 (p.num : Int)]
def plV (p : PlP) : Value := .agg (plCells p)
def plNext (p : PlP) (n : Nat) : PlP := ⟨p.half, p.at_ + secN n, p.gen, p.num + 1⟩

set_option maxRecDepth 100000 in
set_option maxHeartbeats 1000000 in
theorem room_any (n : Nat) (h : n ≤ 1000000000) (w : World) :
    Calls Tryz.prog 64 #[.int .i64 (n : Int)] w fun e w' => e = .returned (.int .i64 (secN n : Nat)) ∧ w' = w := by
  have hs : (14 + (n : Int) + 32 + 1 + 64 - 1) / 64 = (secN n : Int) := by unfold secN; omega
  go_enter Tryz.func64, Tryz.ntmps64
  go_wp2
  go_ret
  refine ⟨?_, rfl⟩
  show Ending.returned (Value.int .i64 ((14 + (n : Int) + 32 + 1 + 64 - 1) / 64)) = _
  rw [hs]

set_option maxRecDepth 100000 in
set_option maxHeartbeats 4000000 in
theorem behind_any (p : PlP) (n : Nat) (h : n ≤ 1000000000) (ha : p.at_ ≤ 1000000000) (hn : p.num < 4294967295) (w : World) :
    Calls Tryz.prog 74 #[plV p, .int .i64 (n : Int)] w fun e w' => e = .returned (plV (plNext p n)) ∧ Below w.heap.size w w' := by
  obtain ⟨half, at_, gen, num⟩ := p
  have hroom := fun w => room_any n h w
  have hs : secN n ≤ 100000000 := by unfold secN; omega
  simp only [plV, plCells, plNext] at ha hn ⊢
  obtain ⟨k, hk⟩ : ∃ k, secN n = k := ⟨_, rfl⟩
  rw [hk] at hs hroom ⊢
  clear hk
  have k1 : IntKind.i64.wrap ((at_ : Int) + (k : Int)) = (at_ : Int) + (k : Int) := IntWalk.i64_in _ (by omega)
  have k2 : IntKind.u32.wrap ((num : Int) + 1) = (num : Int) + 1 := by rw [IntKind.wrap_u32']; omega
  go_enter Tryz.func74, Tryz.ntmps74
  go_wp2
  go_region_held3 (fun W => W.cell? ⟨w.heap.size, 0, none⟩ = some (.int .i64 (half : Int)) ∧ W.cell? ⟨w.heap.size, 1, none⟩ = some (.int .i64 (at_ : Int)) ∧ W.cell? ⟨w.heap.size, 2, none⟩ = some (.int .u32 (gen : Int)) ∧ W.cell? ⟨w.heap.size, 3, none⟩ = some (.int .u32 (num : Int))) ((go_simp; done)) ((go_at_call 64; refine (hroom _).mono ?_; rintro e w9 ⟨rfl, rfl⟩))
  rename_i hHeld
  clear hHeld
  go_wp2
  have hnew := heap_alloc_new (w.alloc (.cells #[.int .i64 (half : Int), .int .i64 (at_ : Int), .int .u32 (gen : Int), .int .u32 (num : Int)] 92)) (.cells #[.int .i64 (half : Int), .int .i64 ((at_ : Int) + (k : Int)), .int .u32 (gen : Int), .int .u32 ((num : Int) + 1)] 92)
  rw [show (w.alloc (.cells #[.int .i64 (half : Int), .int .i64 (at_ : Int), .int .u32 (gen : Int), .int .u32 (num : Int)] 92)).heap.size = w.heap.size + 1 by simp] at hnew
  have hb : Below w.heap.size w ((w.alloc (.cells #[.int .i64 (half : Int), .int .i64 (at_ : Int), .int .u32 (gen : Int), .int .u32 (num : Int)] 92)).alloc (.cells #[.int .i64 (half : Int), .int .i64 ((at_ : Int) + (k : Int)), .int .u32 (gen : Int), .int .u32 ((num : Int) + 1)] 92)).drew := below_drewN (((Below.refl _ w).alloc (Nat.le_refl _) _).alloc (by simp) _) 1
  refine bodyPost_ret (v := .agg #[.int .i64 (half : Int), .int .i64 ((at_ : Int) + (k : Int)), .int .u32 (gen : Int), .int .u32 ((num : Int) + 1)]) (results_cell_row rfl _ _ (w.heap.size + 1) 92 _ (0, 0) _ ?_ hnew Tryz.underlying92 rfl ?_) rfl ⟨?_, hb⟩
  · rfl
  · kernel_rfl
  · push_cast
    rfl

set_option maxRecDepth 100000 in
set_option maxHeartbeats 4000000 in
theorem fits_any (N sz : Nat) (p : PlP) (s : ByteArray) (hs : s.size ≤ 1000000000) (ha : p.at_ ≤ 1000000000) (w : World) (c2 : w.cell? ⟨N, 2, none⟩ = some (.int .i64 (sz : Int))) (hN : N < w.heap.size) :
    Calls Tryz.prog 39 #[.pointer (some ⟨N, 0, none⟩), plV p, .string s] w fun e w' => e = .returned (.bool (decide (p.at_ + secN s.size ≤ sz))) ∧ Below w.heap.size w w' := by
  obtain ⟨half, at_, gen, num⟩ := p
  have hroom := fun w => room_any s.size hs w
  have hss : secN s.size ≤ 100000000 := by unfold secN; omega
  simp only [plV, plCells] at ha ⊢
  obtain ⟨k, hk⟩ : ∃ k, secN s.size = k := ⟨_, rfl⟩
  rw [hk] at hss hroom ⊢
  have hne : N ≠ w.heap.size := by omega
  have k1 : IntKind.i64.wrap ((at_ : Int) + (k : Int)) = (at_ : Int) + (k : Int) := IntWalk.i64_in _ (by omega)
  have k3 : decide ((at_ : Int) + (k : Int) ≤ (sz : Int)) = decide (at_ + k ≤ sz) := by rw [decide_eq_decide]; omega
  have hb0 := (Below.refl w.heap.size w).alloc (Nat.le_refl _) (.cells #[.int .i64 (half : Int), .int .i64 (at_ : Int), .int .u32 (gen : Int), .int .u32 (num : Int)] 92)
  have K3 := Lib.hid k3
  have Hb0 := Lib.hid hb0
  clear hk k3 hb0
  go_enter Tryz.func39, Tryz.ntmps39
  go_wp2
  go_quiet ((go_at_call 64; exact Calls.quiet_of_same (hroom _)))
  go_wp2
  go_ret
  refine ⟨?_, below_drewN Hb0.out nq⟩
  show Ending.returned (Value.bool (decide ((at_ : Int) + (k : Int) ≤ (sz : Int)))) = _
  rw [K3.out]

structure StP where
  fr : Nat
  sz : Nat
  pl : PlP
  lost : Bool
structure CellsOk (cs : Array Value) (Nd m : Nat) (s : StP) : Prop where
  c0 : cs[0]? = some (.pointer (some ⟨Nd, 0, none⟩))
  c1 : cs[1]? = some (.int .i64 (s.fr : Int))
  c2 : cs[2]? = some (.int .i64 (s.sz : Int))
  c3 : cs[3]? = some (.int .i64 (s.pl.half : Int))
  c4 : cs[4]? = some (.int .i64 (s.pl.at_ : Int))
  c5 : cs[5]? = some (.int .u32 (s.pl.gen : Int))
  c6 : cs[6]? = some (.int .u32 (s.pl.num : Int))
  c7 : cs[7]? = some (.map (some m))
  c8 : cs[8]? = some (.bool s.lost)
  once : OnceOk cs
theorem CellsOk.of {cs cs' : Array Value} {Nd m : Nat} {s : StP} (h : CellsOk cs Nd m s) (ho : OnceOk cs') (hl : ∀ j, j < 9 → cs'[j]? = cs[j]?) : CellsOk cs' Nd m s :=
  ⟨(hl 0 (by decide)).trans h.c0, (hl 1 (by decide)).trans h.c1, (hl 2 (by decide)).trans h.c2, (hl 3 (by decide)).trans h.c3, (hl 4 (by decide)).trans h.c4, (hl 5 (by decide)).trans h.c5, (hl 6 (by decide)).trans h.c6, (hl 7 (by decide)).trans h.c7, (hl 8 (by decide)).trans h.c8, ho⟩

set_option maxRecDepth 100000 in
set_option maxHeartbeats 4000000 in
theorem wwrite_any (B N Nd g m : Nat) (cs : Array Value) (st : StP) (d : Dk) (w : World) (h : Held9 w N cs 110) (hc : CellsOk cs Nd m st) (hd : DiskAt w B Nd g d) (hB : B ≤ w.heap.size) (hwr : d.wr ≤ 1000000000000000)
    (half at_ : Nat) (hf : st.fr ≤ 100000) (hz : st.sz ≤ 100000) (hh : half ≤ 1) (hat : at_ ≤ 100000) (s : ByteArray) (hs : s.size ≤ maxLen) :
    Calls Tryz.prog 55 #[.pointer (some ⟨N, 0, none⟩), .int .i64 (half : Int), .int .i64 (at_ : Int), .string s] w fun e w' =>
      e = .returned (.int .i64 (if st.lost then 6 else sayD d ((st.fr + half * st.sz + at_ : Nat) : Int) s.data.toList)) ∧ DiskAt w' B Nd g (if st.lost then d else writeD d ((st.fr + half * st.sz + at_ : Nat) : Int) s.data.toList) ∧ Turned (mineD Nd g) w w' := by
  obtain ⟨fr, sz, pl, lost⟩ := st
  have c8 := h.cell 8
  rw [hc.c8] at c8
  cases lost with
  | true =>
    have H := Lib.hid hd
    clear h hd hc
    go_enter Tryz.func55, Tryz.ntmps55
    go_wp2
    go_ret
    exact ⟨rfl, H.out, Turned.refl _ _⟩
  | false =>
    have c0 := h.cell 0
    rw [hc.c0] at c0
    have c1 := h.cell 1
    rw [hc.c1] at c1
    have c2 := h.cell 2
    rw [hc.c2] at c2
    simp only at hf hz c1 c2 ⊢
    simp only [Bool.false_eq_true, if_false]
    have hmul : half * sz ≤ 100000 := by
      rcases Nat.le_one_iff_eq_zero_or_eq_one.1 hh with rfl | rfl <;> omega
    obtain ⟨q, hq⟩ : ∃ q, half * sz = q := ⟨_, rfl⟩
    have hqi : (half : Int) * (sz : Int) = (q : Int) := by rw [← hq]; push_cast; rfl
    have k0 : IntKind.i64.wrap ((half : Int) * (sz : Int)) = (q : Int) := by rw [hqi]; exact IntWalk.i64_in _ (by omega)
    rw [hq] at hmul ⊢
    have k1 : IntKind.i64.wrap ((fr : Int) + (q : Int)) = (fr : Int) + (q : Int) := IntWalk.i64_in _ (by omega)
    have k2 : IntKind.i64.wrap ((fr : Int) + (q : Int) + (at_ : Int)) = (fr : Int) + (q : Int) + (at_ : Int) := IntWalk.i64_in _ (by omega)
    have hwd := swrite_any B Nd g d w.drew hd.drew hB hwr ((fr : Int) + (q : Int) + (at_ : Int)) s hs
    rw [show ((fr + q + at_ : Nat) : Int) = (fr : Int) + (q : Int) + (at_ : Int) by push_cast; rfl]
    clear hq h hd hc hqi hmul hf hz hh hat
    go_enter Tryz.func55, Tryz.ntmps55
    go_wp2
    go_still_tail 18, (by kernel_rfl)
    go_wp2_with (go_at_call 78; refine hwd.mono ?_; rintro e w2 ⟨rfl, hd2, ht2⟩)
    go_ret
    exact ⟨rfl, hd2, (Turned.drew (S := mineD Nd g)).trans ht2 (fun _ h => .inl h)⟩
end Go.Proofs.YtgpdplffljidbaaGreatDoor
