/-
  What lattice.Parse comes to, for any two lists of strings and any text: told by a plain function. Condition: the text is shorter than 4294967281 bytes.
-/
import Derived.Test.YtkjiaklpffnhlaaDoorParse
import Derived.Test.YtkjiaklpffnhlaaDoorPrint
import Derived.RegionCalls
import Derived.Deep.RegionWith
namespace Go.Proofs.YtkjiaklpffnhlaaDoor
open Go.RowKit Go.Maps

theorem lt_of_cell {w : World} {a : Addr} {v : Value} (h : w.cell? a = some v) : a.block < w.heap.size := by
  rcases Nat.lt_or_ge a.block w.heap.size with h1 | h1
  · exact h1
  · rw [World.cell?, Array.getElem?_eq_none h1] at h
    simp at h

theorem enters_inList1 : ∀ args w, (callFunc 56 args).run Tryd.prog w = .ok (.enter 56 args) w := enters_of Tryd.func56 (by kernel_rfl) rfl

/-- parseWith over two finders of lists. -/
theorem parseLists (p1 p2 n c n' c' : Nat) (A A' : Option Addr) (ss ss' : List ByteArray) (s : ByteArray) (m : Int) (W : World) (hs : s.size < 4294967281) (hm : W.cell? ⟨0, 0, none⟩ = some (.int .i64 m))
    (c1 : W.cell? ⟨p1, 0, none⟩ = some (.slice A n c)) (c2 : W.cell? ⟨p2, 0, none⟩ = some (.slice A' n' c')) (h1 : Strs W W.heap.size A n c ss) (h2 : Strs W W.heap.size A' n' c' ss') (hn : n ≤ 1000) (hn' : n' ≤ 64) :
    Calls Tryd.prog 40 #[.string s, .func (.func 56) #[] #[.pointer (some ⟨p1, 0, none⟩)], .func (.func 56) #[] #[.pointer (some ⟨p2, 0, none⟩)]] W fun e w' => e = .returned (parseV (parseF (idxF ss) (idxF ss') s.data.toList)) ∧ Below W.heap.size W w' := by
  have l1 := lt_of_cell c1
  have l2 := lt_of_cell c2
  refine parseWith_any 56 W.heap.size ⟨p1, 0, none⟩ ⟨p2, 0, none⟩ (idxF ss) (idxF ss') s m W hs hm enters_inList1 (Nat.le_refl _) ?_ ?_ ?_
  · intro W' x hb _
    exact inList1_any p1 W.heap.size n c A ss x W' ((hb.cell (p := ⟨p1, 0, none⟩) l1).trans c1) (h1.below hb) (by omega)
  · intro W' x hb _
    exact inList1_any p2 W.heap.size n' c' A' ss' x W' ((hb.cell (p := ⟨p2, 0, none⟩) l2).trans c2) (h2.below hb) (by omega)
  · intro x b hx
    have := (idxF_lt ss' x b hx).1
    have hl := h2.len
    omega

/-- A text's label, or none, as the code answers. -/
def parseB (ls cs : List ByteArray) (s : List UInt8) : Option (Nat × Int) := if rightB ls cs = true then parseF (idxF ls) (idxF cs) s else none

theorem right_levels {ls cs : List ByteArray} (h : rightB ls cs = true) : ls.length ≤ 16 := by
  unfold rightB at h
  simp only [Bool.and_eq_true, decide_eq_true_eq] at h
  exact h.1.1.2

set_option maxHeartbeats 2000000 in
set_option maxRecDepth 100000 in
theorem parse_any (B n c n' c' : Nat) (A A' : Option Addr) (ss ss' : List ByteArray) (s : ByteArray) (m : Int) (w : World) (hB : B ≤ w.heap.size) (h1 : Strs w B A n c ss) (h2 : Strs w B A' n' c' ss') (hsz : ∀ s ∈ ss ++ ss', s.size ≤ maxLen)
    (hs : s.size < 4294967281) (hm : w.cell? ⟨0, 0, none⟩ = some (.int .i64 m)) :
    Calls Tryd.prog 14 #[.agg #[.slice A n c, .slice A' n' c'], .string s] w fun e w' => e = .returned (parseV (parseB ss ss' s.data.toList)) ∧ Below w.heap.size w w' := by
  have hl1 := h1.len
  have hl2 := h2.len
  have h0 := lt_of_cell hm
  have hb0 : Below w.heap.size w ((w.alloc (.cells #[.slice A n c, .slice A' n' c'] 24)).alloc (.cells #[.int .i64 0, .int .u64 0] 27)) := ((Below.refl _ _).alloc (Nat.le_refl _) _).alloc (by simp) _
  cases hr : rightB ss ss' with
  | false =>
    have hfin : parseV (parseB ss ss' s.data.toList) = .tuple #[.agg #[.int .i64 0, .int .u64 0], .int .i64 2] := by unfold parseB; rw [hr]; rfl
    rw [hfin]
    have Hr := Lib.hid hr
    clear hfin hl1 hl2 hr
    go_enter Tryd.func14, Tryd.ntmps14
    go_wp2_with fail
    refine (right_any B n c n' c' A A' ss ss' _ (by simp; omega) ((h1.alloc hB _).alloc (by simp; omega) _) ((h2.alloc hB _).alloc (by simp; omega) _) hsz).mono ?_
    rintro e w1 ⟨rfl, hb1⟩
    rw [Hr.out]
    have k0 : w1.cell? ⟨w.heap.size + 1, 0, none⟩ = some (.int .i64 0) := by rw [hb1.cell (by simp)]; go_simp
    have k1 : w1.cell? ⟨w.heap.size + 1, 1, none⟩ = some (.int .u64 0) := by rw [hb1.cell (by simp)]; go_simp
    have q0 : w1.frozen? ⟨w.heap.size + 1, 0, none⟩ = false := by rw [hb1.frozen (by simp)]; go_simp
    have q1 : w1.frozen? ⟨w.heap.size + 1, 1, none⟩ = false := by rw [hb1.frozen (by simp)]; go_simp
    have hbw : Below w.heap.size w w1 := hb0.trans (hb1.mono (by simp; omega))
    go_wp2
    exact bodyPost_ret (by simp [results, Tryd.results14, go_sem, k0, k1]) rfl ⟨rfl, (hbw.setCell (p := ⟨w.heap.size + 1, 0, none⟩) (by simp) _).setCell (p := ⟨w.heap.size + 1, 1, none⟩) (by simp) _⟩
  | true =>
    have hc64 := right_comps hr
    have hl16 := right_levels hr
    rw [hl2] at hc64
    rw [hl1] at hl16
    have hpb : parseB ss ss' s.data.toList = parseF (idxF ss) (idxF ss') s.data.toList := by unfold parseB; rw [if_pos hr]
    rw [hpb]
    have Hr := Lib.hid hr
    clear hpb hl1 hl2 hr
    go_enter Tryd.func14, Tryd.ntmps14
    go_wp2_with fail
    refine (right_any B n c n' c' A A' ss ss' _ (by simp; omega) ((h1.alloc hB _).alloc (by simp; omega) _) ((h2.alloc hB _).alloc (by simp; omega) _) hsz).mono ?_
    rintro e w1 ⟨rfl, hb1⟩
    rw [Hr.out]
    have k0 : w1.cell? ⟨w.heap.size + 1, 0, none⟩ = some (.int .i64 0) := by rw [hb1.cell (by simp)]; go_simp
    have k1 : w1.cell? ⟨w.heap.size + 1, 1, none⟩ = some (.int .u64 0) := by rw [hb1.cell (by simp)]; go_simp
    have q0 : w1.frozen? ⟨w.heap.size + 1, 0, none⟩ = false := by rw [hb1.frozen (by simp)]; go_simp
    have q1 : w1.frozen? ⟨w.heap.size + 1, 1, none⟩ = false := by rw [hb1.frozen (by simp)]; go_simp
    have d0 : w1.cell? ⟨w.heap.size, 0, none⟩ = some (.slice A n c) := by rw [hb1.cell (by simp; omega)]; go_simp
    have d1 : w1.cell? ⟨w.heap.size, 1, none⟩ = some (.slice A' n' c') := by rw [hb1.cell (by simp; omega)]; go_simp
    have hz1 : w.heap.size < w1.heap.size := by have := hb1.size; simp at this; omega
    have hz2 : w.heap.size + 1 < w1.heap.size := by have := hb1.size; simp at this; omega
    have hbw : Below w.heap.size w w1 := hb0.trans (hb1.mono (by simp; omega))
    have hpw := parseLists w1.heap.size (w1.heap.size + 1) n c n' c' A A' ss ss' s m ((w1.alloc (.cells #[.slice A n c] 22)).alloc (.cells #[.slice A' n' c'] 22)).drew hs
      (by show ((w1.alloc (.cells #[.slice A n c] 22)).alloc (.cells #[.slice A' n' c'] 22)).cell? _ = _
          rw [(((Below.refl w1.heap.size w1).alloc (Nat.le_refl _) _).alloc (by simp) _).cell (p := ⟨0, 0, none⟩) (by simp; omega), hbw.cell (p := ⟨0, 0, none⟩) h0]; exact hm)
      (by go_simp) (by go_simp)
      (((h1.below (hbw.mono hB)).below ((((Below.refl w1.heap.size w1).alloc (Nat.le_refl _) (.cells #[.slice A n c] 22)).alloc (by simp) (.cells #[.slice A' n' c'] 22)).mono (by omega))).more (by simp; omega))
      (((h2.below (hbw.mono hB)).below ((((Below.refl w1.heap.size w1).alloc (Nat.le_refl _) (.cells #[.slice A n c] 22)).alloc (by simp) (.cells #[.slice A' n' c'] 22)).mono (by omega))).more (by simp; omega))
      (by omega) hc64
    have hb2 : Below w1.heap.size w1 ((w1.alloc (.cells #[.slice A n c] 22)).alloc (.cells #[.slice A' n' c'] 22)).drew := (((Below.refl _ _).alloc (Nat.le_refl _) _).alloc (by simp) _).drew
    clear h1 h2 hb1 hb0 hm
    generalize hpf : parseF (idxF ss) (idxF ss') s.data.toList = r at hpw ⊢
    have Hpf := Lib.hid hpf
    clear hpf
    have Hpw : Hid (Calls Tryd.prog 40 #[.string s, .func (.func 56) #[] #[.pointer (some ⟨w1.heap.size, 0, none⟩)], .func (.func 56) #[] #[.pointer (some ⟨w1.heap.size + 1, 0, none⟩)]] ((w1.alloc (.cells #[.slice A n c] 22)).alloc (.cells #[.slice A' n' c'] 22)).drew fun e w2 =>
        e = .returned (parseV r) ∧ w2.cell? ⟨w.heap.size + 1, 0, none⟩ = some (.int .i64 0) ∧ w2.cell? ⟨w.heap.size + 1, 1, none⟩ = some (.int .u64 0) ∧ w2.frozen? ⟨w.heap.size + 1, 0, none⟩ = false ∧ w2.frozen? ⟨w.heap.size + 1, 1, none⟩ = false ∧ Below w.heap.size w w2) :=
      hpw.mono fun e w2 ⟨he, hb3⟩ => by
        have hb4 : Below w1.heap.size w1 w2 := hb2.trans (hb3.mono (by simp; omega))
        exact ⟨he, (hb4.cell (p := ⟨w.heap.size + 1, 0, none⟩) hz2).trans k0, (hb4.cell (p := ⟨w.heap.size + 1, 1, none⟩) hz2).trans k1, (hb4.frozen (p := ⟨w.heap.size + 1, 0, none⟩) hz2).trans q0, (hb4.frozen (p := ⟨w.heap.size + 1, 1, none⟩) hz2).trans q1, hbw.trans (hb4.mono (by omega))⟩
    clear hpw
    rcases r with _ | ⟨lv, cm⟩
    · simp only [parseV] at Hpw
      go_wp2_with fail
      go_region_with (first | (go_at_call 41; refine (inList_any _ _ _ _).mono ?_; rintro e w' ⟨rfl, rfl⟩) | (go_at_call 40; refine Hpw.out.mono ?_; rintro e w2 ⟨rfl, k2, k3, q2, q3, hf⟩))
      all_goals
        go_wp2
        exact bodyPost_ret (v := .tuple #[.agg #[.int .i64 0, .int .u64 0], .int .i64 2]) (by simp [results, Tryd.results14, go_sem, k2, k3]) rfl ⟨by rw [Hpf.out]; rfl, (hf.setCell (p := ⟨w.heap.size + 1, 0, none⟩) (by simp) _).setCell (p := ⟨w.heap.size + 1, 1, none⟩) (by simp) _⟩
    · simp only [parseV] at Hpw
      go_wp2_with fail
      go_region_with (first | (go_at_call 41; refine (inList_any _ _ _ _).mono ?_; rintro e w' ⟨rfl, rfl⟩) | (go_at_call 40; refine Hpw.out.mono ?_; rintro e w2 ⟨rfl, k2, k3, q2, q3, hf⟩))
      all_goals
        go_wp2
        exact bodyPost_ret (v := .tuple #[.agg #[.int .i64 lv, .int .u64 cm], .int .i64 0]) (by simp [results, Tryd.results14, go_sem, k2, k3]) rfl ⟨by rw [Hpf.out]; rfl, (hf.setCell (p := ⟨w.heap.size + 1, 0, none⟩) (by simp) _).setCell (p := ⟨w.heap.size + 1, 1, none⟩) (by simp) _⟩
end Go.Proofs.YtkjiaklpffnhlaaDoor
