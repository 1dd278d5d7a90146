/-
  The document's New, told by the plain book.
-/
import Derived.Test.YtihbfkiofdancaaQuN
import Derived.Deep.OwnRows
namespace Go.Proofs.Ytihbfkiofdancaa
open Go.RowKit Go.Maps

theorem empty_row {w : World} {B k : Nat} (h : w.heap[k]? = some (.cells #[] 3 (0, 0))) (hB : B ≤ k) : w.ownsRow B 3 1 (.slice (some ⟨k, 0, none⟩) 0 0) 0 [] :=
  ⟨rfl, .inr ⟨k, 0, #[], rfl, hB, h, Nat.le_refl _, Nat.zero_le _, rfl, rfl⟩⟩
theorem zero_row (w : World) {B : Nat} (n : Nat) (hn : n ≤ 16) (hB : B ≤ w.heap.size) : (w.alloc (.cells (madeCells #[.int .i64 0] n) 3)).ownsRow B 3 1 (.slice (some ⟨w.heap.size, 0, none⟩) n n) n (intsQ n fun _ => 0) := by
  have hz : (madeCells #[Value.int .i64 0] n).toList = intsQ n fun _ => 0 := by
    rw [toList_madeCells_one]
    apply List.ext_getElem?
    intro j
    by_cases hj : j < n
    · rw [intsQ_get _ hj, List.getElem?_replicate, if_pos hj]
    · rw [List.getElem?_eq_none (by rw [List.length_replicate]; omega), List.getElem?_eq_none (by rw [intsQ_length]; omega)]
  refine ⟨by rw [intsQ_length, Nat.mul_one], .inr ⟨w.heap.size, n, _, rfl, hB, heap_alloc_new w _, Nat.le_refl _, by unfold maxLen; omega, ?_, ?_⟩⟩
  · rw [← Array.length_toList, hz, intsQ_length, Nat.mul_one]
  · rw [hz, List.take_of_length_le (by rw [intsQ_length]; omega)]

theorem new_two (W : World) (o o' : Obj) : ((W.alloc o).alloc o').heap[W.heap.size + 1]? = some o' := by
  have := heap_alloc_new (W.alloc o) o'
  simpa using this
/-- The pair of rows is stored: the book stands. -/
theorem fin_new {w X : World} {B n : Nat} {vg vm : Value} {bo : Nat → Int} (o1 : X.ownsRow B 3 1 vg n (intsQ n bo)) (o2 : X.ownsRow B 3 1 vm n (intsQ n fun _ => 0)) (hB : w.heap.size ≤ B)
    (hr : X.heap[w.heap.size]? = some (.cells #[.slice none 0 0, .slice none 0 0] 30 (0, 0))) (hb : Below w.heap.size w X) :
    RefB ((X.setCell ⟨w.heap.size, 0, none⟩ vg).setCell ⟨w.heap.size, 1, none⟩ vm) w.heap.size (.agg #[vg, vm]) n bo (fun _ => 0) ∧ Below w.heap.size w ((X.setCell ⟨w.heap.size, 0, none⟩ vg).setCell ⟨w.heap.size, 1, none⟩ vm) := by
  have t : Turned (fun b => b = w.heap.size) X ((X.setCell ⟨w.heap.size, 0, none⟩ vg).setCell ⟨w.heap.size, 1, none⟩ vm) := (Turned.set (S := fun b => b = w.heap.size) rfl).trans (Turned.set (S := fun b => b = w.heap.size) rfl) (fun b hb => .inl hb)
  refine ⟨⟨vg, vm, rfl, row_more (t.row o1 fun b hb e => ?_) hB, row_more (t.row o2 fun b hb e => ?_) hB⟩, (hb.setCell (p := ⟨w.heap.size, 0, none⟩) (Nat.le_refl _) _).setCell (p := ⟨w.heap.size, 1, none⟩) (Nat.le_refl _) _⟩
  · subst e
    obtain ⟨_, cur, hcur⟩ := row_block o1 hb
    rw [hr] at hcur
    simp at hcur
  · subst e
    obtain ⟨_, cur, hcur⟩ := row_block o2 hb
    rw [hr] at hcur
    simp at hcur
/-- A row that was made ahead of a row's growth. -/
theorem made_kept {X w1 : World} {B n k m cap : Nat} {xs : List Value} (h : X.ownsRow B 3 1 (.slice (some ⟨m, 0, none⟩) n cap) n xs) (hg : X.grownBy w1 (some k)) (hk : m ≠ k) : w1.ownsRow B 3 1 (.slice (some ⟨m, 0, none⟩) n cap) n xs :=
  (Turned.of_grown (S := fun b => b = k) hg (fun j hj => .inl (by cases hj; rfl))).row h (fun b hb e => hk (by
    have : some m = some b := hb
    simp at this
    omega))

set_option maxRecDepth 100000 in
set_option maxHeartbeats 4000000 in
theorem mnew_any (A : Option Addr) (n c : Nat) (lb : List Int) (w : World) (h : Ints w A n lb) :
    Calls Try.prog 9 #[.slice A n c] w fun e w' => Below w.heap.size w w' ∧ ((goodQ lb = false ∧ e = .returned (.tuple #[.agg #[.slice none 0 0, .slice none 0 0], .int .i64 1])) ∨
      (goodQ lb = true ∧ ∃ v, e = .returned (.tuple #[v, .int .i64 0]) ∧ RefB w' w.heap.size v n (fun i => lb.getD i 0) (fun _ => 0))) := by
  have hlen := h.1
  obtain ⟨i0, hi0, hz0, hz1, hz2⟩ := info_parts9 infoInt9
  have hb1 : Below w.heap.size w (w.alloc (.cells #[.slice none 0 0, .slice none 0 0] 30)) := (Below.refl _ w).alloc (Nat.le_refl _) _
  have hr1 := heap_alloc_new w (.cells #[.slice none 0 0, .slice none 0 0] 30)
  by_cases h1 : n < 1
  · have hg : goodQ lb = false := decide_eq_false (fun e => by have := e.1.1; omega)
    have Hg := Lib.hid (And.intro hg hb1)
    clear hg hb1 hr1
    go_enter Try.func9, Try.ntmps9
    go_wp2
    exact bodyPost_ret (v := .tuple #[.agg #[.slice none 0 0, .slice none 0 0], .int .i64 1]) (by simp [results, Try.results9, go_sem]) rfl ⟨Hg.out.2, .inl ⟨Hg.out.1, rfl⟩⟩
  · by_cases h2 : 16 < n
    · have hg : goodQ lb = false := decide_eq_false (fun e => by have := e.1.2; omega)
      have Hg := Lib.hid (And.intro hg hb1)
      clear hg hb1 hr1
      go_enter Try.func9, Try.ntmps9
      go_wp2
      exact bodyPost_ret (v := .tuple #[.agg #[.slice none 0 0, .slice none 0 0], .int .i64 1]) (by simp [results, Try.results9, go_sem]) rfl ⟨Hg.out.2, .inl ⟨Hg.out.1, rfl⟩⟩
    · have H := Lib.hid h
      have Hlen := Lib.hid hlen
      clear h hlen
      go_enter Try.func9, Try.ntmps9
      go_wp2_with fail
      generalize w.alloc (.cells #[.slice none 0 0, .slice none 0 0] 30) = w2 at hb1 hr1 ⊢
      have hrl : w.heap.size < w2.heap.size := (Array.getElem?_eq_some_iff.1 hr1).1
      obtain ⟨x0, x1, xf⟩ := cells_two hr1
      have Hw := Lib.hid (And.intro hb1 hr1)
      clear hb1 hr1
      go_loopw [4] (fun iv wr => ∃ i : Nat, i ≤ n ∧ iv = .int .i64 i ∧ wr = w2 ∧ ∀ j, j < i → 0 ≤ lb.getD j 0 ∧ lb.getD j 0 ≤ 1099511627776) (fun iv _ => n - (intOf iv).toNat)
      case atStart => exact ⟨0, by omega, rfl, rfl, fun j hj => by omega⟩
      case round =>
        obtain ⟨i, hi, rfl, rfl, hall⟩ := hrel
        by_cases hlt : i < n
        · obtain ⟨b, off, rfl, hbl, hc⟩ := H.out.at_ hlt
          replace hc := (Hw.out.1.cell (p := ⟨b, off + i, none⟩) hbl).trans hc
          have hno : ¬ (0 ≤ lb.getD i 0 ∧ lb.getD i 0 ≤ 1099511627776) → goodQ lb = false := fun h => decide_eq_false (fun e => h (e.2 i (by rw [Hlen.out]; exact hlt)))
          have hnx : (0 ≤ lb.getD i 0 ∧ lb.getD i 0 ≤ 1099511627776) → ∀ j, j < i + 1 → 0 ≤ lb.getD j 0 ∧ lb.getD j 0 ≤ 1099511627776 := fun h j hj => by
            rcases Nat.lt_or_ge j i with e | e
            · exact hall j e
            · obtain rfl : j = i := by omega
              exact h
          have Hno := Lib.hid hno
          have Hnx := Lib.hid hnx
          clear hno hnx hall
          generalize lb.getD i 0 = x at *
          have Hbb := Lib.hid ((Hw.out.1.setCell (p := ⟨w.heap.size, 0, none⟩) (Nat.le_refl _) (.slice none 0 0)).setCell (p := ⟨w.heap.size, 1, none⟩) (Nat.le_refl _) (.slice none 0 0))
          by_cases q1 : x < 0
          · have Hf := Lib.hid (Hno.out (by omega))
            go_wp2
            exact bodyPost_ret (v := .tuple #[.agg #[.slice none 0 0, .slice none 0 0], .int .i64 1]) (by simp [results, Try.results9, go_sem, x0, x1]) rfl ⟨Hbb.out, .inl ⟨Hf.out, rfl⟩⟩
          · by_cases q2 : 1099511627776 < x
            · have Hf := Lib.hid (Hno.out (by omega))
              go_wp2
              exact bodyPost_ret (v := .tuple #[.agg #[.slice none 0 0, .slice none 0 0], .int .i64 1]) (by simp [results, Try.results9, go_sem, x0, x1]) rfl ⟨Hbb.out, .inl ⟨Hf.out, rfl⟩⟩
            · go_wp2
              exact ⟨⟨i + 1, by omega, by go_num, by first | rfl | trivial, Hnx.out (by omega)⟩, by simp [intOf]; omega⟩
        · obtain rfl : i = n := by omega
          have hg : goodQ lb = true := decide_eq_true ⟨by rw [Hlen.out]; omega, fun j hj => hall j (by rw [Hlen.out] at hj; exact hj)⟩
          have Hg := Lib.hid hg
          clear hg hall
          obtain ⟨b, off, rfl, hbl, _⟩ := H.out.at_ (show 0 < i by omega)
          have hsrc : Hid (∀ (W : World) j u, Below w.heap.size w W → (intsQ i fun j => lb.getD j 0)[j]? = some u → W.cell? ((⟨b, off, none⟩ : Addr).add j) = some u) := Lib.hid fun W j u hW hj => by
            have hjn : j < i := by
              have := (List.getElem?_eq_some_iff.1 hj).1
              rw [intsQ_length] at this
              exact this
            rw [intsQ_get _ hjn] at hj
            obtain ⟨b', off', e, _, hc⟩ := H.out.at_ hjn
            cases e
            rw [Addr.add_lit, hW.cell (p := ⟨b, off + j, none⟩) hbl, hc]
            exact hj
          have hmk : ∀ W : World, (Instr.makeSlice 22 (.int .i64 (i : Int)) (.int .i64 (i : Int))).run Try.prog W = .ok (.slice (some ⟨W.heap.size, 0, none⟩) i i) (W.alloc (.cells (madeCells #[.int .i64 0] i) 3)) := fun W =>
            run_make_row' 22 3 (.int .i64 0) 8 Try.underlying22 infoInt9 rfl .i64 .i64 i (by omega) (by omega) W
          have Hmk := Lib.hid hmk
          clear hmk
          go_wp2_with fail
          have hmk := Hmk.out
          generalize hW0 : wr = W0 at *
          have hbr := Below.refl W0.heap.size W0
          have hb0 := Hw.out.1
          go_region_law (first
            | (refine step_append_lies _ (by rfl) _ _ _ (by rfl) W0.heap.size 3 i0 (.int .i64 0) 1 8 Try.underlying22 hi0 hz0 hz1 hz2 rfl (by omega) _ 0 [] (by rfl) (empty_row (by first | exact heap_alloc_new _ _ | exact (heap_alloc_old (W0.alloc (.cells #[] 3)) _ (by simp)).trans (heap_alloc_new _ _) | exact new_two _ _ _) (by simp)) ⟨b, off, none⟩ i c (intsQ i fun j => lb.getD j 0) (by rfl) (by rw [intsQ_length, Nat.mul_one]) (fun j u hj => hsrc.out _ j u (hb0.trans (Below.mono (B := W0.heap.size) (by go_grown) (by omega))) hj) (intsQ_one i _) (by omega) (by unfold maxLen; omega) (by omega) (by first | (simp; done) | (simp; omega)) _ rfl ?_; intro gg cap1 w1 hown1 hgrow hat hlt1; have hb9 : Below W0.heap.size W0 w1 := Below.grown (by go_grown) hgrow (by first | (simp; done) | (simp; omega)) (fun k hk => by simp [Value.ownBlock] at hk; omega); have hr9 := (hb9.block _ hrl).trans Hw.out.2; obtain ⟨y0, y1, yf⟩ := cells_two hr9; have hra : ∀ o, (w1.alloc o).heap[w.heap.size]? = some (.cells #[.slice none 0 0, .slice none 0 0] 30 (0, 0)) := fun o => (heap_alloc_old w1 o (Array.getElem?_eq_some_iff.1 hr9).1).trans hr9; have y0a := fun o => (cells_two (hra o)).1; have y1a := fun o => (cells_two (hra o)).2.1; have yfa := fun o => (cells_two (hra o)).2.2; have Hr9 := Lib.hid hr9; have Hra := Lib.hid hra; clear hr9 hra))
          · rw [Nat.zero_add, List.nil_append] at hown1
            have hz := hb9.size
            have hf := fin_new (w := w) (ownsRow_belowQ hown1 ((Below.refl _ w1).alloc (Nat.le_refl _) (.cells (madeCells #[.int .i64 0] i) 3))) (zero_row w1 i (by omega) hz) (by omega) (Hra.out _) ((hb0.trans (hb9.mono (by omega))).alloc (by omega) _)
            have HF := Lib.hid hf
            clear hf hown1 hgrow hat hlt1 hb9 Hra Hr9 hmk
            go_wp2
            exact bodyPost_ret (v := .tuple #[.agg #[.slice (some ⟨gg, 0, none⟩) i cap1, .slice (some ⟨w1.heap.size, 0, none⟩) i i], .int .i64 0]) (by simp [results, Try.results9, go_sem, y0, y1, y0a, y1a]) rfl ⟨HF.out.2, .inr ⟨Hg.out, _, rfl, HF.out.1⟩⟩
          · rw [Nat.zero_add, List.nil_append] at hown1
            have hm : ((W0.alloc (.cells #[] 3)).alloc (.cells (madeCells #[.int .i64 0] i) 3)).drew.ownsRow W0.heap.size 3 1 (.slice (some ⟨W0.heap.size + 1, 0, none⟩) i i) i (intsQ i fun _ => 0) := by
              have := zero_row (B := W0.heap.size) (W0.alloc (.cells #[] 3)) i (by omega) (by simp)
              rw [show (W0.alloc (.cells #[] 3)).heap.size = W0.heap.size + 1 by simp] at this
              exact this
            have hf := fin_new (w := w) hown1 (made_kept hm hgrow (by show W0.heap.size + 1 ≠ W0.heap.size; omega)) (by omega) Hr9.out (hb0.trans (hb9.mono (by omega)))
            have HF := Lib.hid hf
            clear hf hm hown1 hgrow hat hlt1 hb9 Hra Hr9 hmk
            go_wp2
            exact bodyPost_ret (v := .tuple #[.agg #[.slice (some ⟨gg, 0, none⟩) i cap1, .slice (some ⟨W0.heap.size + 1, 0, none⟩) i i], .int .i64 0]) (by simp [results, Try.results9, go_sem, y0, y1, y0a, y1a]) rfl ⟨HF.out.2, .inr ⟨Hg.out, _, rfl, HF.out.1⟩⟩
          · rw [Nat.zero_add, List.nil_append] at hown1
            have hm : ((W0.alloc (.cells (madeCells #[.int .i64 0] i) 3)).alloc (.cells #[] 3)).drew.ownsRow W0.heap.size 3 1 (.slice (some ⟨W0.heap.size, 0, none⟩) i i) i (intsQ i fun _ => 0) :=
              ownsRow_belowQ (zero_row W0 i (by omega) (Nat.le_refl _)) (((Below.refl _ _).alloc (Nat.le_refl _) _).drew)
            have hf := fin_new (w := w) hown1 (made_kept hm hgrow (by show W0.heap.size ≠ W0.heap.size + 1; omega)) (by omega) Hr9.out (hb0.trans (hb9.mono (by omega)))
            have HF := Lib.hid hf
            clear hf hm hown1 hgrow hat hlt1 hb9 Hra Hr9 hmk
            go_wp2
            exact bodyPost_ret (v := .tuple #[.agg #[.slice (some ⟨gg, 0, none⟩) i cap1, .slice (some ⟨W0.heap.size, 0, none⟩) i i], .int .i64 0]) (by simp [results, Try.results9, go_sem, y0, y1, y0a, y1a]) rfl ⟨HF.out.2, .inr ⟨Hg.out, _, rfl, HF.out.1⟩⟩
end Go.Proofs.Ytihbfkiofdancaa
