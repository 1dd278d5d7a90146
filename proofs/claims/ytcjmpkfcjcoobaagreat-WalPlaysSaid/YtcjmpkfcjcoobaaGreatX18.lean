/-
  Texts of this proof, put together: Sh7.
-/
import Derived.Test.YtcjmpkfcjcoobaaGreatX17
namespace Go.Proofs.YtcjmpkfcjcoobaaGreat
open Go.RowKit Go.Maps

theorem TabOk.snoc {c1 c2 : Array Value} {k : Nat} {L : List Nat} {n : Nat} (h : TabOk c1 k L) (hs : ∀ j, j ≠ k + 8 + L.length → (j ≠ k + L.length ∨ 8 ≤ L.length) → c2[j]? = c1[j]?)
    (ha : c2[k + 8 + L.length]? = some (.int .u32 (cuF n))) (hb : L.length < 8 → c2[k + L.length]? = some (.int .u32 (sqF n))) : TabOk c2 k (L ++ [n]) := by
  constructor
  · intro j hj h8
    rw [List.length_append, List.length_singleton] at hj
    by_cases e : j = L.length
    · subst e
      rw [List.getElem_append_right (Nat.le_refl _)]
      simp only [Nat.sub_self, List.getElem_cons_zero]
      exact hb h8
    · rw [List.getElem_append_left (by omega), hs (k + j) (by omega) (by omega)]
      exact h.st j (by omega) h8
  · intro j hj
    rw [List.length_append, List.length_singleton] at hj
    by_cases e : j = L.length
    · subst e
      rw [List.getElem_append_right (Nat.le_refl _)]
      simp only [Nat.sub_self, List.getElem_cons_zero]
      exact ha
    · rw [List.getElem_append_left (by omega), hs (k + 8 + j) (by omega) (by omega)]
      exact h.ad j (by omega)
theorem Same72.set {cs c1 : Array Value} {k j : Nat} (h : Same72 cs c1 k) (hj : k ≤ j ∧ j < k + 72) (hk : k + 72 ≤ cs.size) (v : Value) : Same72 cs (c1.setIfInBounds j v) k :=
  ⟨by rw [Array.size_setIfInBounds]; exact h.1, fun i hi => by rw [set_get9 _ _ _ _ (by rw [h.1]; omega), if_neg (by omega)]; exact h.2 i hi⟩
theorem Words72.set {c1 : Array Value} {k j : Nat} (h : Words72 c1 k) (hj : j < c1.size) (x : Int) : Words72 (c1.setIfInBounds j (.int .u32 x)) k := fun i hi => by
  rw [set_get9 _ _ _ _ hj]
  by_cases e : k + i = j
  · exact ⟨x, by rw [if_pos e]⟩
  · rw [if_neg e]; exact h i hi
section
variable {w : World} {b : Nat} {cs : Array Value} {T : TypeId}
theorem Held9.cell (h : Held9 w b cs T) (j : Nat) : w.cell? ⟨b, j, none⟩ = cs[j]? := Lib.cell_of_heap h j
theorem Held9.frozen (h : Held9 w b cs T) (j : Nat) : w.frozen? ⟨b, j, none⟩ = false := Lib.frozen_of_heap h j
theorem Held9.lt (h : Held9 w b cs T) : b < w.heap.size := (Array.getElem?_eq_some_iff.1 h).1
theorem Held9.set (h : Held9 w b cs T) (j : Nat) (v : Value) : Held9 (w.setCell ⟨b, j, none⟩ v) b (cs.setIfInBounds j v) T := set_block h
theorem Held9.alloc (h : Held9 w b cs T) (o : Obj) : Held9 (w.alloc o) b cs T := by
  unfold Held9
  rw [heap_alloc_old w o h.lt]
  exact h
end
theorem World.size_setCell9 (w : World) (a : Addr) (v : Value) : (w.setCell a v).heap.size = w.heap.size := by simp [World.setCell]
/-- What a digest's making keeps: the block of the counter, its own block, all others. -/
structure Made9 (w w' : World) (b pn n : Nat) (T : TypeId) (cs c1 : Array Value) (k : Nat) (L : List Nat) : Prop where
  hp : w.heap.size ≤ pn
  lt : pn < w'.heap.size
  cell : w'.cell? ⟨pn, 0, none⟩ = some (.int .u64 (n : Int))
  frozen : w'.frozen? ⟨pn, 0, none⟩ = false
  held : Held9 w' b c1 T
  same : Same72 cs c1 k
  words : Words72 c1 k
  tab : TabOk c1 k L
  grown : w.grownBy w' (some b)
section
variable {w w' : World} {b pn n k : Nat} {T : TypeId} {cs c1 : Array Value} {L : List Nat}
theorem Made9.drew (h : Made9 w w' b pn n T cs c1 k L) : Made9 w w'.drew b pn n T cs c1 k L := ⟨h.hp, h.lt, h.cell, h.frozen, h.held, h.same, h.words, h.tab, ⟨h.grown.os, h.grown.tape, h.grown.output, h.grown.size, h.grown.block⟩⟩
theorem Made9.bne (h : Made9 w w' b pn n T cs c1 k L) (hb : b < w.heap.size) : pn ≠ b := by have := h.hp; omega
/-- A cell of the table is laid. -/
theorem Made9.set (h : Made9 w w' b pn n T cs c1 k L) (hb : b < w.heap.size) {j : Nat} (hj : k ≤ j ∧ j < k + 72) (hk : k + 72 ≤ cs.size) (x : Int) {L' : List Nat} (ht : TabOk (c1.setIfInBounds j (.int .u32 x)) k L') :
    Made9 w (w'.setCell ⟨b, j, none⟩ (.int .u32 x)) b pn n T cs (c1.setIfInBounds j (.int .u32 x)) k L' := by
  have hne := h.bne hb
  refine ⟨h.hp, by simp [World.setCell]; exact h.lt, ?_, ?_, h.held.set j _, h.same.set hj hk _, h.words.set (by rw [h.same.1]; omega) x, ht, ?_⟩
  · rw [World.cell?_setCell_other _ _ _ _ (by intro e; injection e with e; exact hne e.symm)]
    exact h.cell
  · rw [World.frozen?_setCell]
    exact h.frozen
  · exact ⟨h.grown.os, h.grown.tape, h.grown.output, by simpa [World.setCell] using h.grown.size, fun i hi hne => (Below.heap_setCell w' ⟨b, j, none⟩ _ i (fun e => hne (by rw [e]))).trans (h.grown.block i hi hne)⟩
theorem made9_start (w : World) (hh : Held9 w b cs T) (h0 : Words72 cs k) : Made9 w (w.alloc (.cells #[.int .u64 2] 74)) b w.heap.size 2 T cs cs k [] := by
  have hnew : (w.alloc (.cells #[.int .u64 2] 74)).heap[w.heap.size]? = some (.cells #[.int .u64 2] 74 (0, 0)) := heap_alloc_new w _
  refine ⟨Nat.le_refl _, by simp, ?_, Lib.frozen_of_heap hnew 0, hh.alloc _, ⟨rfl, fun _ _ => rfl⟩, h0, ⟨fun j hj => (by cases hj), fun j hj => (by cases hj)⟩, World.grownBy_alloc w _ _⟩
  rw [Lib.cell_of_heap hnew]
  rfl
/-- The counter goes on, in a block of its own. -/
theorem Made9.next (h : Made9 w w' b pn n T cs c1 k L) : Made9 w (w'.alloc (.cells #[.int .u64 ((n : Int) + 1)] 74)) b w'.heap.size (n + 1) T cs c1 k L := by
  have hsz := h.grown.size
  have hnew : (w'.alloc (.cells #[.int .u64 ((n : Int) + 1)] 74)).heap[w'.heap.size]? = some (.cells #[.int .u64 ((n : Int) + 1)] 74 (0, 0)) := heap_alloc_new w' _
  refine ⟨hsz, by simp, ?_, Lib.frozen_of_heap hnew 0, h.held.alloc _, h.same, h.words, h.tab, h.grown.trans (World.grownBy_alloc w' _ _)⟩
  rw [Lib.cell_of_heap hnew]
  rfl
end

set_option maxRecDepth 100000 in
set_option maxHeartbeats 4000000 in
theorem build_any (b k : Nat) (cs : Array Value) (T : TypeId) (w : World) (h : Held9 w b cs T) (hk : k + 72 ≤ cs.size) (h0 : Words72 cs k) :
    Calls Tryz.prog 51 #[.pointer (some ⟨b, k, none⟩)] w fun e w' => e = .returned (.tuple #[]) ∧ ∃ cs', Held9 w' b cs' T ∧ Same72 cs cs' k ∧ Words72 cs' k ∧ TabOk cs' k primes64 ∧ w.grownBy w' (some b) := by
  have hb := h.lt
  have hst := made9_start w h h0
  have Hk := Lib.hid hk
  clear hk h h0
  go_enter Tryz.func51, Tryz.ntmps51
  go_wp2
  go_loopg [2, 3] 400 (fun gk av pv wr => ∃ (n pn : Nat) (c1 : Array Value) (L : List Nat), 2 ≤ n ∧ gk + n = 402 ∧ L.length ≤ 64 ∧ av = .int .i64 (L.length : Int) ∧ pv = .pointer (some ⟨pn, 0, none⟩) ∧ Hid (primesP n = L) ∧ Made9 w wr b pn n T cs c1 k L)
  case atStart => exact ⟨2, w.heap.size, cs, [], by omega, rfl, by decide, rfl, rfl, Lib.hid (by decide), hst⟩
  case round =>
    clear hst
    obtain ⟨n, pn, c1, L, hn2, hgk, hL, rfl, rfl, hP, hM⟩ := hrel
    by_cases hlt : L.length < 64
    · have hn : n < 312 := primes_lt (by rw [hP.out]; exact hlt)
      have hpr := prime_any n hn2 (by omega) wr
      have hcell := hM.cell
      have hnext := primes_succ n
      rw [hP.out, decide_eq_true hn2, Bool.true_and] at hnext
      cases hpb : primeB n with
      | false =>
        rw [hpb] at hpr hnext
        simp only [Bool.false_eq_true, if_false, List.append_nil] at hnext
        have Hnx := Lib.hid hnext
        have HM := Lib.hid hM.next
        clear hnext hpb hM hP
        go_wp2_with (go_at_call 69; refine hpr.mono ?_; rintro e w' ⟨rfl, rfl⟩)
        --@a
        go_roundg (gk - 1)
        case measure => omega
        case rel => exact ⟨n + 1, _, c1, L, by omega, by omega, hL, rfl, rfl, Hnx, HM.out⟩
      | true =>
        rw [hpb] at hpr hnext
        simp only [if_true] at hnext
        have Hnx := Lib.hid hnext
        clear hnext hpb hP
        have hcs := hM.same.1
        have hkk := Hk.out
        have hsz8 : k + 8 + L.length < c1.size := by omega
        have Hfr2 : Hid (∀ W : World, W.cell? ⟨pn, 0, none⟩ = some (.int .u64 (n : Int)) → Calls Tryz.prog 70 #[.func (.func 73) #[] #[.pointer (some ⟨pn, 0, none⟩)]] W fun e w' => e = .returned (.int .u32 (cuF n)) ∧ w' = W) := Lib.hid fun W h => frac_cuc pn n (by omega) W h
        by_cases h8 : L.length < 8
        · have c0 := hM.words L.length (by omega)
          obtain ⟨x0, c0⟩ := c0
          rw [← hM.held.cell] at c0
          have f0 := hM.held.frozen (k + L.length)
          have Hfr : Hid (∀ W : World, W.cell? ⟨pn, 0, none⟩ = some (.int .u64 (n : Int)) → Calls Tryz.prog 70 #[.func (.func 71) #[] #[.pointer (some ⟨pn, 0, none⟩)]] W fun e w' => e = .returned (.int .u32 (sqF n)) ∧ w' = W) := Lib.hid fun W h => frac_sqc pn n (by omega) W h
          have ht1 : TabOk (c1.setIfInBounds (k + L.length) (.int .u32 (sqF n))) k L := hM.tab.out (fun j hj => by rw [set_get9 _ _ _ _ (by omega), if_neg (by omega)]) (fun j hj h => by rw [set_get9 _ _ _ _ (by omega), if_neg (by omega)])
          have hM2 := (hM.set hb (j := k + L.length) (by omega) hkk (sqF n) ht1).drew
          have htab : TabOk ((c1.setIfInBounds (k + L.length) (.int .u32 (sqF n))).setIfInBounds (k + 8 + L.length) (.int .u32 (cuF n))) k (L ++ [n]) := hM.tab.snoc (fun j h1 h2 => by
              rw [set_get9 _ _ _ _ (by rw [Array.size_setIfInBounds]; omega), if_neg h1, set_get9 _ _ _ _ (by omega), if_neg (by omega)])
            (by rw [set_get9 _ _ _ _ (by rw [Array.size_setIfInBounds]; omega), if_pos rfl])
            (fun _ => by rw [set_get9 _ _ _ _ (by rw [Array.size_setIfInBounds]; omega), if_neg (by omega), set_get9 _ _ _ _ (by omega), if_pos rfl])
          obtain ⟨c2, hc2⟩ : ∃ c2, c1.setIfInBounds (k + L.length) (.int .u32 (sqF n)) = c2 := ⟨_, rfl⟩
          rw [hc2] at hM2 htab
          have HM1 := Lib.hid hM2
          clear ht1 hM hc2 hM2
          go_wp2_with (go_at_call 69; refine hpr.mono ?_; rintro e w' ⟨rfl, hw9⟩; obtain rfl := hw9.symm; clear hw9)
          go_region_held3 (fun W => W.cell? ⟨pn, 0, none⟩ = some (.int .u64 (n : Int))) (first | exact hcell | exact HM1.out.cell | (go_simp; done)) ((go_at_call 70; refine (Hfr.out _ (by exact hcell)).mono ?_; rintro e w9 ⟨rfl, rfl⟩))
          rename_i hHeld
          clear c0 f0 hcell hHeld
          have hM2 := HM1.out
          clear HM1
          generalize (wr.setCell ⟨b, k + L.length, none⟩ (.int .u32 (sqF n))).drew = w2 at hM2 ⊢
          obtain ⟨x1, c0⟩ : ∃ x1 : Int, c2[k + 8 + L.length]? = some (.int .u32 x1) := by
            have := hM2.words (8 + L.length) (by omega)
            rw [← Nat.add_assoc] at this
            exact this
          rw [← hM2.held.cell] at c0
          have f0 := hM2.held.frozen (k + 8 + L.length)
          have hM3 := hM2.set hb (j := k + 8 + L.length) (by omega) hkk (cuF n) htab
          have HM3 := Lib.hid hM3.drew
          have hM4 := hM3.next.drew
          rw [World.size_setCell9] at hM4
          have HM4 := Lib.hid hM4
          clear hM4
          have hcell2 := hM2.cell
          clear hM3 htab hM2
          go_wp2
          go_region_held3 (fun W => W.cell? ⟨pn, 0, none⟩ = some (.int .u64 (n : Int))) (first | exact hcell2 | exact HM3.out.cell | (go_simp; done)) ((go_at_call 70; refine (Hfr2.out _ (by exact hcell2)).mono ?_; rintro e w9 ⟨rfl, rfl⟩))
          rename_i hHeld
          clear c0 f0 hcell2
          go_wp2
          go_roundg (gk - 1)
          case measure => omega
          case rel => exact ⟨n + 1, _, _, L ++ [n], by omega, by omega, by rw [List.length_append, List.length_singleton]; omega, by rw [List.length_append, List.length_singleton]; push_cast; rfl, rfl, Hnx, HM4.out⟩
        · have hM2 := hM
          have htab : TabOk (c1.setIfInBounds (k + 8 + L.length) (.int .u32 (cuF n))) k (L ++ [n]) := hM.tab.snoc (fun j h1 h2 => by
              rw [set_get9 _ _ _ _ (by omega), if_neg h1])
            (by rw [set_get9 _ _ _ _ (by omega), if_pos rfl])
            (fun h => absurd h h8)
          obtain ⟨c2, hc2⟩ : ∃ c2, c1 = c2 := ⟨_, rfl⟩
          rw [hc2] at hM2 htab
          clear hM hc2
          go_wp2_with (go_at_call 69; refine hpr.mono ?_; rintro e w' ⟨rfl, hw9⟩; obtain rfl := hw9.symm; clear hw9)
          obtain ⟨x1, c0⟩ : ∃ x1 : Int, c2[k + 8 + L.length]? = some (.int .u32 x1) := by
            have := hM2.words (8 + L.length) (by omega)
            rw [← Nat.add_assoc] at this
            exact this
          rw [← hM2.held.cell] at c0
          have f0 := hM2.held.frozen (k + 8 + L.length)
          have hM3 := hM2.set hb (j := k + 8 + L.length) (by omega) hkk (cuF n) htab
          have HM3 := Lib.hid hM3.drew
          have hM4 := hM3.next.drew
          rw [World.size_setCell9] at hM4
          have HM4 := Lib.hid hM4
          clear hM4
          have hcell2 := hM2.cell
          clear hM3 htab hM2
          go_region_held3 (fun W => W.cell? ⟨pn, 0, none⟩ = some (.int .u64 (n : Int))) (first | exact hcell2 | exact HM3.out.cell | (go_simp; done)) ((go_at_call 70; refine (Hfr2.out _ (by exact hcell2)).mono ?_; rintro e w9 ⟨rfl, rfl⟩))
          rename_i hHeld
          clear c0 f0 hcell2
          go_wp2
          go_roundg (gk - 1)
          case measure => omega
          case rel => exact ⟨n + 1, _, _, L ++ [n], by omega, by omega, by rw [List.length_append, List.length_singleton]; omega, by rw [List.length_append, List.length_singleton]; push_cast; rfl, rfl, Hnx, HM4.out⟩
    · have hL64 : L.length = 64 := by omega
      have hfin : L = primes64 := by rw [← hP.out]; exact primes_all (by rw [hP.out]; exact hL64)
      have H := Lib.hid (And.intro hfin hM)
      clear hfin hM hP
      go_wp2
      (first | go_end0 | (simp only [Exit.inBlock, Exit.then]; refine bodyPost_ret (results_none rfl _ _ _) rfl ?_) | refine bodyPost_ret (results_none rfl _ _ _) rfl ?_)
      exact ⟨rfl, c1, H.out.2.held, H.out.2.same, H.out.2.words, by have := H.out.2.tab; rw [H.out.1] at this; exact this, H.out.2.grown⟩
end Go.Proofs.YtcjmpkfcjcoobaaGreat
