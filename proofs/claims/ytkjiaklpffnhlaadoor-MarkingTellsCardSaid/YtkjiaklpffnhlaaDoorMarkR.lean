/-
  What marking.Read and Check come to: told by plain functions. Condition: the text is shorter than 4294967281 bytes.
-/
import Derived.Test.YtkjiaklpffnhlaaDoorMark
namespace Go.Proofs.YtkjiaklpffnhlaaDoor
open Go.RowKit

set_option maxRecDepth 100000 in
set_option maxHeartbeats 2000000 in
theorem read_any (B n c n' c' : Nat) (A A' : Option Addr) (ss ss' : List ByteArray) (s : ByteArray) (m : Int) (w : World) (hB : B ≤ w.heap.size) (h1 : Strs w B A n c ss) (h2 : Strs w B A' n' c' ss') (hsz : ∀ s ∈ ss ++ ss', s.size ≤ maxLen)
    (hs : s.size < 4294967281) (hm : w.cell? ⟨0, 0, none⟩ = some (.int .i64 m)) :
    Calls Tryd.prog 29 #[.agg #[.slice A n c, .slice A' n' c'], .string s] w fun e w' => e = .returned (readV (readB ss ss' s.data.toList)) ∧ Below w.heap.size w w' := by
  have h0 := lt_of_cell hm
  have hb0 : Below w.heap.size w ((w.alloc (.cells #[.slice A n c, .slice A' n' c'] 24)).alloc (.cells #[.int .i64 0, .int .u64 0] 27)) := ((Below.refl _ _).alloc (Nat.le_refl _) _).alloc (by simp) _
  cases hr : rightB ss ss' with
  | false =>
    have hfin : readV (readB ss ss' s.data.toList) = .tuple #[.agg #[.int .i64 0, .int .u64 0], .string ⟨#[]⟩, .int .i64 2] := by unfold readB; rw [hr]; rfl
    rw [hfin]
    have Hr := Lib.hid hr
    clear hfin hr
    go_enter Tryd.func29, Tryd.ntmps29
    go_wp2_with fail
    refine (right_any B n c n' c' A A' ss ss' _ (by simp; omega) ((h1.alloc hB _).alloc (by simp; omega) _) ((h2.alloc hB _).alloc (by simp; omega) _) hsz).mono ?_
    rintro e w1 ⟨rfl, hb1⟩
    rw [Hr.out]
    have k0 : w1.cell? ⟨w.heap.size + 1, 0, none⟩ = some (.int .i64 0) := by rw [hb1.cell (by simp)]; go_simp
    have k1 : w1.cell? ⟨w.heap.size + 1, 1, none⟩ = some (.int .u64 0) := by rw [hb1.cell (by simp)]; go_simp
    have q0 : w1.frozen? ⟨w.heap.size + 1, 0, none⟩ = false := by rw [hb1.frozen (by simp)]; go_simp
    have q1 : w1.frozen? ⟨w.heap.size + 1, 1, none⟩ = false := by rw [hb1.frozen (by simp)]; go_simp
    have hbw : Below w.heap.size w w1 := hb0.trans (hb1.mono (by simp; omega))
    go_wp2
    exact bodyPost_ret (by simp [results, Tryd.results29, go_sem, k0, k1]) rfl ⟨rfl, (hbw.setCell (p := ⟨w.heap.size + 1, 0, none⟩) (by simp) _).setCell (p := ⟨w.heap.size + 1, 1, none⟩) (by simp) _⟩
  | true =>
    have hrb : readB ss ss' s.data.toList = readF ss ss' s.data.toList := by unfold readB; rw [if_pos hr]
    rw [hrb]
    have Hr := Lib.hid hr
    clear hrb hr
    go_enter Tryd.func29, Tryd.ntmps29
    go_wp2_with fail
    refine (right_any B n c n' c' A A' ss ss' _ (by simp; omega) ((h1.alloc hB _).alloc (by simp; omega) _) ((h2.alloc hB _).alloc (by simp; omega) _) hsz).mono ?_
    rintro e w1 ⟨rfl, hb1⟩
    rw [Hr.out]
    have k0 : w1.cell? ⟨w.heap.size + 1, 0, none⟩ = some (.int .i64 0) := by rw [hb1.cell (by simp)]; go_simp
    have k1 : w1.cell? ⟨w.heap.size + 1, 1, none⟩ = some (.int .u64 0) := by rw [hb1.cell (by simp)]; go_simp
    have q0 : w1.frozen? ⟨w.heap.size + 1, 0, none⟩ = false := by rw [hb1.frozen (by simp)]; go_simp
    have q1 : w1.frozen? ⟨w.heap.size + 1, 1, none⟩ = false := by rw [hb1.frozen (by simp)]; go_simp
    have d0 : w1.cell? ⟨w.heap.size, 0, none⟩ = some (.slice A n c) := by rw [hb1.cell (by simp; omega)]; go_simp
    have d1 : w1.cell? ⟨w.heap.size, 1, none⟩ = some (.slice A' n' c') := by rw [hb1.cell (by simp; omega)]; go_simp
    have hz1 : w.heap.size < w1.heap.size := by have := hb1.size; simp at this; omega
    have hz2 : w.heap.size + 1 < w1.heap.size := by have := hb1.size; simp at this; omega
    have hbw : Below w.heap.size w w1 := hb0.trans (hb1.mono (by simp; omega))
    have hb2 : Below w1.heap.size w1 ((w1.alloc (.cells #[.string s] 9)).drew) := ((Below.refl _ _).alloc (Nat.le_refl _) _).drew
    have hbw2 := hbw.trans (hb2.mono (by omega))
    have hrw := readWith_any B n c n' c' w1.heap.size A A' ss ss' s m ((w1.alloc (.cells #[.string s] 9)).drew) (by have := hb2.size; omega) (h1.below (hbw2.mono hB)) (h2.below (hbw2.mono hB)) hsz Hr.out hs
      ((hbw2.cell (p := ⟨0, 0, none⟩) h0).trans hm) (by show (w1.alloc (.cells #[.string s] 9)).cell? _ = _; go_simp)
    clear h1 h2 hb1 hb0 hm hbw2
    obtain ⟨r, hrr⟩ : ∃ r, readF ss ss' s.data.toList = r := ⟨_, rfl⟩
    rw [hrr] at hrw
    have Hrr := Lib.hid hrr
    clear hrr
    have Hrw : Hid (Calls Tryd.prog 47 #[.agg #[.slice A n c, .slice A' n' c'], .func (.func 61) #[] #[.pointer (some ⟨w1.heap.size, 0, none⟩)]] ((w1.alloc (.cells #[.string s] 9)).drew) fun e w2 =>
        e = .returned (readV r) ∧ w2.cell? ⟨w.heap.size + 1, 0, none⟩ = some (.int .i64 0) ∧ w2.cell? ⟨w.heap.size + 1, 1, none⟩ = some (.int .u64 0) ∧ w2.frozen? ⟨w.heap.size + 1, 0, none⟩ = false ∧ w2.frozen? ⟨w.heap.size + 1, 1, none⟩ = false ∧ Below w.heap.size w w2) :=
      Lib.hid (hrw.mono fun e w2 ⟨he, hb3⟩ => by
        have hb4 : Below w1.heap.size w1 w2 := hb2.trans (hb3.mono (by have := hb2.size; omega))
        exact ⟨he, (hb4.cell (p := ⟨w.heap.size + 1, 0, none⟩) hz2).trans k0, (hb4.cell (p := ⟨w.heap.size + 1, 1, none⟩) hz2).trans k1, (hb4.frozen (p := ⟨w.heap.size + 1, 0, none⟩) hz2).trans q0, (hb4.frozen (p := ⟨w.heap.size + 1, 1, none⟩) hz2).trans q1, hbw.trans (hb4.mono (by omega))⟩)
    clear hrw hb2
    obtain ⟨⟨L, k⟩, rest, code⟩ := r
    simp only [readV] at Hrw
    go_wp2_with fail
    go_region_with (first | (go_at_call 48; refine (firstLine_any _ _).mono ?_; rintro e w' ⟨rfl, rfl⟩) | (go_at_call 47; refine Hrw.out.mono ?_; rintro e w2 ⟨rfl, k2, k3, q2, q3, hf⟩))
    all_goals
      go_wp2
      exact bodyPost_ret (v := .tuple #[.agg #[.int .i64 L, .int .u64 k], .string ⟨rest.toArray⟩, .int .i64 code]) (by simp [results, Tryd.results29, go_sem, k2, k3]) rfl ⟨by rw [Hrr.out]; rfl, (hf.setCell (p := ⟨w.heap.size + 1, 0, none⟩) (by simp) _).setCell (p := ⟨w.heap.size + 1, 1, none⟩) (by simp) _⟩

set_option maxRecDepth 100000 in
set_option maxHeartbeats 2000000 in
theorem check_any_m (B n c n' c' : Nat) (A A' : Option Addr) (ss ss' : List ByteArray) (la ca : Int) (s : ByteArray) (m : Int) (w : World) (hB : B ≤ w.heap.size) (h1 : Strs w B A n c ss) (h2 : Strs w B A' n' c' ss') (hsz : ∀ s ∈ ss ++ ss', s.size ≤ maxLen)
    (hs : s.size < 4294967281) (hm : w.cell? ⟨0, 0, none⟩ = some (.int .i64 m)) :
    Calls Tryd.prog 33 #[.agg #[.slice A n c, .slice A' n' c'], .agg #[.int .i64 la, .int .u64 ca], .string s] w fun e w' => e = .returned (.int .i64 (checkB ss ss' la ca s.data.toList)) ∧ Below w.heap.size w w' := by
  have h0 := lt_of_cell hm
  simp at h0
  have hb0 : Below w.heap.size w ((w.alloc (.cells #[.slice A n c, .slice A' n' c'] 24)).alloc (.cells #[.int .i64 la, .int .u64 ca] 27)) := ((Below.refl _ _).alloc (Nat.le_refl _) _).alloc (by simp) _
  have hra := read_any B n c n' c' A A' ss ss' s m ((w.alloc (.cells #[.slice A n c, .slice A' n' c'] 24)).alloc (.cells #[.int .i64 la, .int .u64 ca] 27)) (by simp; omega) (h1.below (hb0.mono hB)) (h2.below (hb0.mono hB)) hsz hs ((hb0.cell (p := ⟨0, 0, none⟩) h0).trans hm)
  have hck : checkB ss ss' la ca s.data.toList = if (readB ss ss' s.data.toList).2.2 = 0 then (if domB la ca (readB ss ss' s.data.toList).1.1 (readB ss ss' s.data.toList).1.2 = true then 0 else 8) else (readB ss ss' s.data.toList).2.2 := rfl
  generalize readB ss ss' s.data.toList = r at hra hck
  obtain ⟨⟨L, k⟩, rest, code⟩ := r
  simp only [readV] at hra hck
  rw [hck]
  clear hck h1 h2 hm
  by_cases hcd : code = 0
  · subst hcd
    rw [if_pos rfl]
    obtain ⟨x, hx⟩ : ∃ x, domB la ca L k = x := ⟨_, rfl⟩
    rw [hx]
    have Hx := Lib.hid hx
    clear hx
    go_enter Tryd.func33, Tryd.ntmps33
    go_wp2_with fail
    refine hra.mono ?_
    rintro e w1 ⟨rfl, hb1⟩
    have b0 : w1.cell? ⟨w.heap.size + 1, 0, none⟩ = some (.int .i64 la) := by rw [hb1.cell (by simp)]; go_simp
    have b1 : w1.cell? ⟨w.heap.size + 1, 1, none⟩ = some (.int .u64 ca) := by rw [hb1.cell (by simp)]; go_simp
    have hz1 : w.heap.size + 1 < w1.heap.size := by have := hb1.size; simp at this; omega
    have hbw := (hb0.trans (hb1.mono (by simp; omega)))
    clear hb1 hb0 hra
    go_wp2_with fail
    refine (dom_any la ca L k _).mono ?_
    rintro e w2 ⟨rfl, hb2⟩
    rw [Hx.out]
    have hbw2 := (hbw.alloc (by omega) (.cells #[.int .i64 L, .int .u64 k] 27)).trans (hb2.mono (by simp; omega))
    cases x
    all_goals
      go_wp2
      go_ret
      exact ⟨rfl, hbw2⟩
  · rw [if_neg hcd]
    have hcb : (code == 0) = false := by simp [hcd]
    have hcn : (code != 0) = true := by simp [hcd]
    go_enter Tryd.func33, Tryd.ntmps33
    go_wp2_with fail
    refine hra.mono ?_
    rintro e w1 ⟨rfl, hb1⟩
    have hbw := (hb0.trans (hb1.mono (by simp; omega)))
    have hz1 : w.heap.size ≤ w1.heap.size := by have := hb1.size; simp at this; omega
    clear hb1 hb0 hra
    go_wp2
    go_ret
    exact ⟨rfl, hbw.alloc hz1 _⟩
end Go.Proofs.YtkjiaklpffnhlaaDoor
