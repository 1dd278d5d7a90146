/-
  Making a book, and a copy of one.
-/
import Derived.Test.YtihbfkiofdancaaQuD
import Derived.Deep.RegionHeld3
namespace Go.Proofs.Ytihbfkiofdancaa
open Go.RowKit Go.Maps

/-- A row of numbers in memory. -/
def Ints (w : World) (A : Option Addr) (n : Nat) (lb : List Int) : Prop :=
  lb.length = n ∧ (n = 0 ∨ ∃ b off, A = some ⟨b, off, none⟩ ∧ b < w.heap.size ∧ ∀ i (h : i < lb.length), w.cell? ⟨b, off + i, none⟩ = some (.int .i64 lb[i]))
theorem Ints.below {w w' : World} {B : Nat} {A : Option Addr} {n : Nat} {lb : List Int} (h : Ints w A n lb) (hb : Below B w w') (hB : w.heap.size ≤ B) : Ints w' A n lb := by
  obtain ⟨h1, h3⟩ := h
  refine ⟨h1, h3.imp id ?_⟩
  rintro ⟨b, off, q1, q2, q3⟩
  exact ⟨b, off, q1, Nat.lt_of_lt_of_le q2 hb.size, fun i hi => (hb.cell (p := ⟨b, off + i, none⟩) (by show b < B; omega)).trans (q3 i hi)⟩
theorem Ints.at_ {w : World} {A : Option Addr} {n : Nat} {lb : List Int} (h : Ints w A n lb) {i : Nat} (hi : i < n) : ∃ (b off : Nat), A = some ⟨b, off, none⟩ ∧ b < w.heap.size ∧ w.cell? ⟨b, off + i, none⟩ = some (.int .i64 (lb.getD i 0)) := by
  obtain ⟨h1, h3⟩ := h
  rcases h3 with h3 | ⟨b, off, q1, q2, q3⟩
  · omega
  · exact ⟨b, off, q1, q2, by rw [q3 i (by omega), List.getD_eq_getElem?_getD, List.getElem?_eq_getElem (by omega), Option.getD_some]⟩

/-- A book's block, all its cells. -/
structure HalfBook (w : World) (M n : Nat) (bo ta : Nat → Int) : Prop where
  mem : ∃ cs, w.heap[M]? = some (.cells cs 52 (0, 0)) ∧ cs.size = 33 ∧ cs[32]? = some (.int .i64 (n : Int)) ∧ ∀ j, j < 16 → cs[j * 2]? = some (.int .i64 (bo j)) ∧ cs[j * 2 + 1]? = some (.int .i64 (ta j))
section
variable {w w' : World} {M n : Nat} {bo ta : Nat → Int}
theorem HalfBook.cells (h : HalfBook w M n bo ta) : (∀ j, j < 16 → w.cell? ⟨M, j * 2, none⟩ = some (.int .i64 (bo j)) ∧ w.cell? ⟨M, j * 2 + 1, none⟩ = some (.int .i64 (ta j))) ∧ ∀ j, w.frozen? ⟨M, j, none⟩ = false := by
  obtain ⟨cs, h1, h2, h3, h4⟩ := h.mem
  refine ⟨fun i hi => ?_, fun j => Lib.frozen_of_heap h1 j⟩
  obtain ⟨a, b⟩ := h4 i hi
  exact ⟨by rw [Lib.cell_of_heap h1]; exact a, by rw [Lib.cell_of_heap h1]; exact b⟩
theorem HalfBook.congr {bo' ta' : Nat → Int} (h : HalfBook w M n bo ta) (h1 : ∀ j, j < 16 → bo j = bo' j) (h2 : ∀ j, j < 16 → ta j = ta' j) : HalfBook w M n bo' ta' := by
  obtain ⟨cs, q1, q2, q3, q4⟩ := h.mem
  exact ⟨cs, q1, q2, q3, fun j hj => by rw [← h1 j hj, ← h2 j hj]; exact q4 j hj⟩
theorem HalfBook.set0 (h : HalfBook w M n bo ta) {i : Nat} (hi : i < 16) (x : Int) : HalfBook (w.setCell ⟨M, i * 2, none⟩ (.int .i64 x)) M n (fun j => if j = i then x else bo j) ta := by
  obtain ⟨cs, q1, q2, q3, q4⟩ := h.mem
  refine ⟨cs.setIfInBounds (i * 2) (.int .i64 x), set_block q1, by rw [Array.size_setIfInBounds]; exact q2, ?_, fun j hj => ⟨?_, ?_⟩⟩
  · rw [Array.getElem?_setIfInBounds_ne (by omega)]; exact q3
  · by_cases e : j = i
    · subst e
      rw [if_pos rfl, Array.getElem?_setIfInBounds_self_of_lt (by omega)]
    · rw [if_neg e, Array.getElem?_setIfInBounds_ne (by omega)]
      exact (q4 j hj).1
  · rw [Array.getElem?_setIfInBounds_ne (by omega)]; exact (q4 j hj).2
theorem HalfBook.set1 (h : HalfBook w M n bo ta) {i : Nat} (hi : i < 16) (x : Int) : HalfBook (w.setCell ⟨M, i * 2 + 1, none⟩ (.int .i64 x)) M n bo (fun j => if j = i then x else ta j) := by
  obtain ⟨cs, q1, q2, q3, q4⟩ := h.mem
  refine ⟨cs.setIfInBounds (i * 2 + 1) (.int .i64 x), set_block q1, by rw [Array.size_setIfInBounds]; exact q2, ?_, fun j hj => ⟨?_, ?_⟩⟩
  · rw [Array.getElem?_setIfInBounds_ne (by omega)]; exact q3
  · rw [Array.getElem?_setIfInBounds_ne (by omega)]; exact (q4 j hj).1
  · by_cases e : j = i
    · subst e
      rw [if_pos rfl, Array.getElem?_setIfInBounds_self_of_lt (by omega)]
    · rw [if_neg e, Array.getElem?_setIfInBounds_ne (by omega)]
      exact (q4 j hj).2
theorem HalfBook.drew (h : HalfBook w M n bo ta) : HalfBook w.drew M n bo ta := ⟨h.mem⟩
theorem HalfBook.lt (h : HalfBook w M n bo ta) : M < w.heap.size := by
  obtain ⟨cs, h1, _⟩ := h.mem
  exact (Array.getElem?_eq_some_iff.1 h1).1
theorem HalfBook.book (h : HalfBook w M n bo ta) (h1 : 1 ≤ n) (h16 : n ≤ 16) (ok : ∀ i, i < n → 0 ≤ ta i ∧ ta i ≤ bo i ∧ bo i ≤ 1099511627776) : BookAt w M n bo ta := by
  obtain ⟨cs, q1, q2, q3, q4⟩ := h.mem
  exact ⟨h1, h16, ⟨cs, q1, q2, q3, fun j hj => q4 j (by omega)⟩, ok⟩
end
/-- A new book's cells. -/
def zeroCells (n : Int) : Array Value := #[.int .i64 0, .int .i64 0, .int .i64 0, .int .i64 0, .int .i64 0, .int .i64 0, .int .i64 0, .int .i64 0, .int .i64 0, .int .i64 0, .int .i64 0, .int .i64 0, .int .i64 0, .int .i64 0, .int .i64 0, .int .i64 0,
  .int .i64 0, .int .i64 0, .int .i64 0, .int .i64 0, .int .i64 0, .int .i64 0, .int .i64 0, .int .i64 0, .int .i64 0, .int .i64 0, .int .i64 0, .int .i64 0, .int .i64 0, .int .i64 0, .int .i64 0, .int .i64 0, .int .i64 n]
theorem zero_book (w : World) (n : Nat) : HalfBook (w.alloc (.cells (zeroCells n) 52)) w.heap.size n (fun _ => 0) (fun _ => 0) := by
  refine ⟨zeroCells n, heap_alloc_new w _, rfl, rfl, fun j hj => ?_⟩
  have e : zeroCells n = (List.replicate 32 (Value.int .i64 0) ++ [Value.int .i64 (n : Int)]).toArray := rfl
  rw [e]
  constructor <;> rw [List.getElem?_toArray, List.getElem?_append_left (by rw [List.length_replicate]; omega), List.getElem?_replicate, if_pos (by omega)]

def goodQ (lb : List Int) : Bool := decide ((1 ≤ lb.length ∧ lb.length ≤ 16) ∧ ∀ i, i < lb.length → 0 ≤ lb.getD i 0 ∧ lb.getD i 0 ≤ 1099511627776)

set_option maxRecDepth 100000 in
set_option maxHeartbeats 2000000 in
theorem qnew_any (A : Option Addr) (n c : Nat) (lb : List Int) (w : World) (h : Ints w A n lb) :
    Calls Try.prog 8 #[.slice A n c] w fun e w' => Below w.heap.size w w' ∧ ((goodQ lb = false ∧ e = .returned (.tuple #[.pointer none, .int .i64 1])) ∨
      (goodQ lb = true ∧ ∃ N, e = .returned (.tuple #[.pointer (some ⟨N, 0, none⟩), .int .i64 0]) ∧ w.heap.size ≤ N ∧ BookAt w' N n (fun i => lb.getD i 0) (fun _ => 0))) := by
  have hlen := h.1
  by_cases h1 : n < 1
  · have hg : goodQ lb = false := decide_eq_false (fun e => by have := e.1.1; omega)
    have Hg := Lib.hid hg
    clear hg
    go_enter Try.func8, Try.ntmps8
    go_wp2
    go_ret2
    exact ⟨Below.refl _ _, .inl ⟨Hg.out, rfl⟩⟩
  · by_cases h2 : 16 < n
    · have hg : goodQ lb = false := decide_eq_false (fun e => by have := e.1.2; omega)
      have Hg := Lib.hid hg
      clear hg
      go_enter Try.func8, Try.ntmps8
      go_wp2
      go_ret2
      exact ⟨Below.refl _ _, .inl ⟨Hg.out, rfl⟩⟩
    · have H := Lib.hid h
      have Hlen := Lib.hid hlen
      have hb1 : Below w.heap.size w (w.alloc (.cells (zeroCells n) 52)) := (Below.refl _ w).alloc (Nat.le_refl _) _
      have hz1 := zero_book w n
      clear h hlen
      go_enter Try.func8, Try.ntmps8
      go_wp2_with fail
      generalize hB : w.heap.size = B at *
      go_loopw [21] (fun iv wr => ∃ i : Nat, i ≤ n ∧ iv = .int .i64 i ∧ HalfBook wr B n (fun j => if j < i then lb.getD j 0 else 0) (fun _ => 0) ∧ Below B w wr ∧ ∀ j, j < i → 0 ≤ lb.getD j 0 ∧ lb.getD j 0 ≤ 1099511627776) (fun iv _ => n - (intOf iv).toNat)
      case atStart => exact ⟨0, by omega, rfl, hz1.congr (fun j _ => by simp) (fun _ _ => rfl), hb1, fun j hj => by omega⟩
      case round =>
        obtain ⟨i, hi, rfl, hH, hb, hall⟩ := hrel
        by_cases hlt : i < n
        · obtain ⟨b, off, rfl, hbl, hc⟩ := H.out.at_ hlt
          replace hc := (hb.cell (p := ⟨b, off + i, none⟩) (by rw [← hB]; exact hbl)).trans hc
          obtain ⟨hcs, hfz⟩ := hH.cells
          obtain ⟨c1, _⟩ := hcs i (by omega)
          have f1 := hfz (i * 2)
          have hset := hH.set0 (show i < 16 by omega) (lb.getD i 0)
          have hst : HalfBook (wr.setCell ⟨B, i * 2, none⟩ (.int .i64 (lb.getD i 0))) B n (fun j => if j < i + 1 then lb.getD j 0 else 0) (fun _ => 0) := hset.congr (fun j _ => by
            by_cases e : j = i
            · subst e
              rw [if_pos rfl, if_pos (by omega)]
            · rw [if_neg e]
              by_cases e2 : j < i
              · rw [if_pos e2, if_pos (by omega)]
              · rw [if_neg e2, if_neg (by omega)]) (fun _ _ => rfl)
          have Hst := Lib.hid hst
          have Hb := Lib.hid (hb.setCell (p := ⟨B, i * 2, none⟩) (Nat.le_refl B) (.int .i64 (lb.getD i 0)))
          have hno : ¬ (0 ≤ lb.getD i 0 ∧ lb.getD i 0 ≤ 1099511627776) → goodQ lb = false := fun h => decide_eq_false (fun e => h (e.2 i (by rw [Hlen.out]; exact hlt)))
          have hnx : (0 ≤ lb.getD i 0 ∧ lb.getD i 0 ≤ 1099511627776) → ∀ j, j < i + 1 → 0 ≤ lb.getD j 0 ∧ lb.getD j 0 ≤ 1099511627776 := fun h j hj => by
            rcases Nat.lt_or_ge j i with e | e
            · exact hall j e
            · obtain rfl : j = i := by omega
              exact h
          have Hno := Lib.hid hno
          have Hnx := Lib.hid hnx
          clear hno hnx hst hset hall hH hcs hfz
          have Hb0 := Lib.hid hb
          clear hb
          generalize lb.getD i 0 = x at *
          by_cases q1 : x < 0
          · have Hf := Lib.hid (Hno.out (by omega))
            go_wp2
            go_ret2
            exact ⟨by first | exact Hb0.out | (rw [hB]; exact Hb0.out), .inl ⟨Hf.out, rfl⟩⟩
          · by_cases q2 : 1099511627776 < x
            · have Hf := Lib.hid (Hno.out (by omega))
              go_wp2
              go_ret2
              exact ⟨by first | exact Hb0.out | (rw [hB]; exact Hb0.out), .inl ⟨Hf.out, rfl⟩⟩
            · go_wp2
              exact ⟨⟨i + 1, by omega, by go_num, Hst.out, Hb.out, Hnx.out (by omega)⟩, by simp [intOf]; omega⟩
        · obtain rfl : i = n := by omega
          have hg : goodQ lb = true := decide_eq_true ⟨by rw [Hlen.out]; omega, fun j hj => hall j (by rw [Hlen.out] at hj; exact hj)⟩
          have hbk : BookAt wr B i (fun j => lb.getD j 0) (fun _ => 0) := by
            have hx := hH.book (by omega) (by omega) (fun j hj => by
              have := hall j hj
              simp only [if_pos hj]
              omega)
            refine ⟨hx.n1, hx.n16, ?_, fun j hj => by have := hall j hj; show 0 ≤ (0 : Int) ∧ _; omega⟩
            obtain ⟨cs, s1, s2, s3, s4⟩ := hx.mem
            exact ⟨cs, s1, s2, s3, fun j hj => by have := s4 j hj; simpa only [if_pos hj] using this⟩
          have Hg := Lib.hid (And.intro hg (And.intro hbk hb))
          clear hg hbk hH hb hall
          go_wp2
          go_ret2
          exact ⟨by rw [hB]; exact Hg.out.2.2, .inr ⟨Hg.out.1, B, rfl, by omega, Hg.out.2.1⟩⟩

set_option maxRecDepth 100000 in
set_option maxHeartbeats 2000000 in
theorem qcopy_any (N n : Nat) (bo ta : Nat → Int) (w : World) (h : BookAt w N n bo ta) :
    Calls Try.prog 14 #[.pointer (some ⟨N, 0, none⟩)] w fun e w' => Below w.heap.size w w' ∧ ∃ M, e = .returned (.pointer (some ⟨M, 0, none⟩)) ∧ w.heap.size ≤ M ∧ BookAt w' M n bo ta := by
  have hlt := h.lt
  obtain ⟨c0, _, _⟩ := h.cells
  have hn := h.n16
  have H := Lib.hid h
  have hb1 : Below w.heap.size w (w.alloc (.cells (zeroCells n) 52)) := (Below.refl _ w).alloc (Nat.le_refl _) _
  have hz1 := zero_book w n
  clear h
  go_enter Try.func14, Try.ntmps14
  go_wp2_with fail
  have hc1 := hb1.cell (p := ⟨N, 32, none⟩) (show N < w.heap.size from hlt)
  generalize hB : w.heap.size = B at *
  go_loopw [15] (fun iv wr => ∃ i : Nat, i ≤ n ∧ iv = .int .i64 i ∧ HalfBook wr B n (fun j => if j < i then bo j else 0) (fun j => if j < i then ta j else 0) ∧ Below B w wr) (fun iv _ => n - (intOf iv).toNat)
  case atStart => exact ⟨0, by omega, rfl, hz1.congr (fun j _ => by simp) (fun j _ => by simp), hb1⟩
  case round =>
    obtain ⟨i, hi, rfl, hH, hb⟩ := hrel
    have hbk := H.out.below (by rw [hB]; exact hb)
    by_cases hli : i < n
    · obtain ⟨hcs, hfz⟩ := hH.cells
      obtain ⟨c1, c2⟩ := hcs i (by omega)
      have f1 := hfz (i * 2)
      obtain ⟨_, hbc, _⟩ := hbk.cells
      obtain ⟨b1, b2⟩ := hbc i hli
      have hne : N ≠ B := by omega
      obtain ⟨x, hx⟩ : ∃ x, (if i < i then bo i else 0) = x := ⟨_, rfl⟩
      obtain ⟨y, hy⟩ : ∃ y, (if i < i then ta i else 0) = y := ⟨_, rfl⟩
      rw [hx] at c1
      rw [hy] at c2
      have hs1 := (hH.drew).set0 (show i < 16 by omega) (bo i)
      have hs2 := (hs1.drew).set1 (show i < 16 by omega) (ta i)
      have hst := hs2.congr (bo' := fun j => if j < i + 1 then bo j else 0) (ta' := fun j => if j < i + 1 then ta j else 0) (fun j _ => by
        by_cases e : j = i
        · subst e
          rw [if_pos rfl, if_pos (by omega)]
        · rw [if_neg e]
          by_cases e2 : j < i
          · rw [if_pos e2, if_pos (by omega)]
          · rw [if_neg e2, if_neg (by omega)]) (fun j _ => by
        by_cases e : j = i
        · subst e
          rw [if_pos rfl, if_pos (by omega)]
        · rw [if_neg e]
          by_cases e2 : j < i
          · rw [if_pos e2, if_pos (by omega)]
          · rw [if_neg e2, if_neg (by omega)])
      have hbn := (below_drewN ((below_drewN hb 1).setCell (p := ⟨B, i * 2, none⟩) (Nat.le_refl B) (.int .i64 (bo i))) 1).setCell (p := ⟨B, i * 2 + 1, none⟩) (Nat.le_refl B) (.int .i64 (ta i))
      obtain ⟨hc3, hf3⟩ := hs1.drew.cells
      obtain ⟨_, c3⟩ := hc3 i (by omega)
      have f3 := hf3 (i * 2 + 1)
      have hb3 : ((wr.drew.setCell ⟨B, i * 2, none⟩ (.int .i64 (bo i))).drew).cell? ⟨N, i * 2 + 1, none⟩ = some (.int .i64 (ta i)) := by
        have := (H.out.below (by rw [hB]; exact below_drewN ((below_drewN hb 1).setCell (p := ⟨B, i * 2, none⟩) (Nat.le_refl B) (.int .i64 (bo i))) 1)).cells.2.1 i hli
        exact this.2
      rw [hy] at c3
      have hld := load64_q _ _ _ hb3
      have hso := store64_q _ _ (ta i) _ c3 f3
      have Hst := Lib.hid (And.intro hst hbn)
      clear hH hb hbk hcs hfz hbc hs1 hs2 hst hbn hc3 hf3 hx hy c2 b2 hb3 c3 f3
      have k0 : (0 : Int) ≤ (i : Int) := by omega
      have k1 : (i : Int) < 16 := by omega
      have k2 : i < 16 := by omega
      go_wp2_with fail
      go_region
      go_wp2_with fail
      go_region_held3 (fun _ => True) (trivial) (first | (go_at_call 22; refine hld.mono ?_; rintro e w' ⟨rfl, rfl⟩) | (go_at_call 21; refine hso.mono ?_; rintro e w' ⟨rfl, rfl⟩))
      go_wp2_with fail
      exact ⟨⟨i + 1, by omega, by go_num, Hst.out.1, Hst.out.2⟩, by simp [intOf]; omega⟩
    · obtain rfl : i = n := by omega
      have h16 := H.out.n1
      have hbf := hH.book (by omega) (by omega) (fun j hj => by
        have := H.out.ok j hj
        simp only [if_pos hj]
        exact this)
      have hbk : BookAt wr B i bo ta := by
        refine ⟨hbf.n1, hbf.n16, ?_, H.out.ok⟩
        obtain ⟨cs, s1, s2, s3, s4⟩ := hbf.mem
        exact ⟨cs, s1, s2, s3, fun j hj => by have := s4 j hj; simpa only [if_pos hj] using this⟩
      have Hg := Lib.hid (And.intro hbk hb)
      clear hbk hbf hH hb
      go_wp2
      go_ret
      exact ⟨by rw [hB]; exact Hg.out.2, B, rfl, by omega, Hg.out.1⟩
end Go.Proofs.Ytihbfkiofdancaa
