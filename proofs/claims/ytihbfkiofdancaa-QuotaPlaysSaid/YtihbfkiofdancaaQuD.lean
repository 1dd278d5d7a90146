/-
  What is left of a level, and what is taken in all.
-/
import Derived.Test.YtihbfkiofdancaaQuC
namespace Go.Proofs.Ytihbfkiofdancaa
open Go.RowKit Go.Maps

theorem BookAt.drewN {w : World} {N n : Nat} {bo ta : Nat → Int} (h : BookAt w N n bo ta) (q : Nat) : BookAt (w.drewN q) N n bo ta := h.below (below_drewN (Below.refl _ w) q)

set_option maxRecDepth 100000 in
theorem qleft_any (N n : Nat) (bo ta : Nat → Int) (w : World) (h : BookAt w N n bo ta) (l : Int) :
    Calls Try.prog 16 #[.pointer (some ⟨N, 0, none⟩), .int .i64 l] w fun e w' => e = .returned (.int .i64 (leftQ n bo ta l)) ∧ ∃ q, w' = w.drewN q := by
  have hh := qhas_any N n bo ta w h l
  unfold leftQ
  by_cases hl : hasQ n l = true
  · have ht := fun q => qtaken_any N n bo ta _ (h.drewN q) l
    unfold takenQ at ht
    simp only [if_pos hl] at ht
    rw [if_pos hl]
    rw [hl] at hh
    obtain ⟨hl0, hl1⟩ := of_decide_eq_true hl
    obtain ⟨i, rfl⟩ : ∃ i : Nat, l = i := ⟨l.toNat, by omega⟩
    have hi : i < n := by omega
    have hn := h.n16
    obtain ⟨_, c, _⟩ := h.cells
    have hc := (c i hi).1
    obtain ⟨o1, o2, o3⟩ := h.ok i hi
    rw [Int.toNat_natCast] at ht ⊢
    generalize ta i = x at *
    generalize bo i = b at *
    clear h c hl hl0 hl1
    go_enter Try.func16, Try.ntmps16
    go_wp2_with (go_at_call 23; refine hh.mono ?_; rintro e w' ⟨rfl, rfl⟩)
    go_quiet (first | (go_at_call 15; exact Calls.quiet_of_same (ht _)))
    go_wp2
    go_ret
    exact ⟨rfl, _, rfl⟩
  · rw [if_neg hl]
    rw [Bool.not_eq_true] at hl
    rw [hl] at hh
    clear h
    go_enter Try.func16, Try.ntmps16
    go_wp2_with (go_at_call 23; refine hh.mono ?_; rintro e w' ⟨rfl, rfl⟩)
    go_ret
    exact ⟨rfl, 0, rfl⟩

set_option maxRecDepth 100000 in
theorem qtotal_any (N n : Nat) (bo ta : Nat → Int) (w : World) (h : BookAt w N n bo ta) :
    Calls Try.prog 17 #[.pointer (some ⟨N, 0, none⟩)] w fun e w' => e = .returned (.int .i64 (sumQ ta n)) ∧ w' = w := by
  have ht := fun l => qtaken_any N n bo ta w h l
  obtain ⟨c0, _, _⟩ := h.cells
  have hn := h.n16
  have hs := sumQ_range (n := n) (fun i hi => ⟨(h.ok i hi).1, Int.le_trans (h.ok i hi).2.1 (h.ok i hi).2.2⟩)
  have H := Lib.hid h
  have HS := Lib.hid hs
  have HT := Lib.hid ht
  clear h hs ht
  go_enter Try.func17, Try.ntmps17
  go_wp2
  go_loop [9, 3] (fun iv tv => ∃ i : Nat, i ≤ n ∧ iv = .int .i64 i ∧ tv = .int .i64 (sumQ ta i)) (fun iv _ => n - (intOf iv).toNat)
  case atStart => exact ⟨0, by omega, rfl, rfl⟩
  case round =>
    obtain ⟨i, hi, rfl, rfl⟩ := hrel
    by_cases hlt : i < n
    · have hti := HT.out (i : Int)
      rw [show takenQ n ta (i : Int) = ta i by unfold takenQ hasQ; rw [decide_eq_true (show 0 ≤ (i : Int) ∧ (i : Int) < n by omega), if_pos rfl, Int.toNat_natCast]] at hti
      obtain ⟨s1, s2⟩ := HS.out i hi
      obtain ⟨t1, t2, t3⟩ := H.out.ok i hlt
      have hsum : sumQ ta (i + 1) = sumQ ta i + ta i := rfl
      have Hsum := Lib.hid hsum
      clear hsum
      generalize hS : sumQ ta i = s at *
      generalize ta i = t at *
      generalize bo i = b at *
      go_wp2_with (go_at_call 15; refine hti.mono ?_; rintro e w' ⟨rfl, rfl⟩)
      exact ⟨⟨i + 1, by omega, by go_num, by rw [Hsum.out]⟩, by simp [intOf]; omega⟩
    · obtain rfl : i = n := by omega
      go_wp2
      go_ret
      exact ⟨rfl, rfl⟩
end Go.Proofs.Ytihbfkiofdancaa
