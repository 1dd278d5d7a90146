/-
  The document's answer of layer 1, written in Go: a label's text, told by the plain function that tells the program.
-/
import Derived.Test.YtkjiaklpffnhlaaDoorRef4
namespace Go.Proofs.YtkjiaklpffnhlaaDoor
open Go.RowKit

set_option maxHeartbeats 4000000 in
set_option maxRecDepth 100000 in
theorem rprint_any (B n c n' c' : Nat) (A A' : Option Addr) (ss ss' : List ByteArray) (l : Int) (K : Nat) (w : World) (hB : B ≤ w.heap.size) (h1 : Strs w B A n c ss) (h2 : Strs w B A' n' c' ss') (hsz : ∀ s ∈ ss ++ ss', s.size ≤ maxLen) (hK : K < 18446744073709551616) :
    Calls Tryd.prog 13 #[.agg #[.slice A n c, .slice A' n' c'], .agg #[.int .i64 l, .int .u64 K]] w fun e w' => e = .returned (.tuple #[.string ⟨(printB ss ss' l K).1.toArray⟩, .int .i64 (printB ss ss' l K).2]) ∧ Below w.heap.size w w' := by
  have hb0 : Below w.heap.size w ((w.alloc (.cells #[.slice A n c, .slice A' n' c'] 24)).alloc (.cells #[.int .i64 l, .int .u64 K] 27)) := ((Below.refl _ _).alloc (Nat.le_refl _) _).alloc (by simp) _
  have hl1 := h1.len
  have hl2 := h2.len
  cases hr : rightB ss ss' with
  | false =>
    have hp : printB ss ss' l K = ([], 2) := by unfold printB; rw [hr]; rfl
    rw [hp]
    have Hr := Lib.hid hr
    clear hr hl1 hl2 hp
    go_enter Tryd.func13, Tryd.ntmps13
    go_wp2_with fail
    refine (rright_any B n c n' c' A A' ss ss' _ (by simp; omega) ((h1.alloc hB _).alloc (by simp; omega) _) ((h2.alloc hB _).alloc (by simp; omega) _) hsz).mono ?_
    rintro e w1 ⟨rfl, hb1⟩
    rw [Hr.out]
    go_wp2
    go_ret2
    exact ⟨rfl, hb0.trans (hb1.mono (by simp; omega))⟩
  | true =>
    have hs16 := right_sizes hr
    have hc64 : n' ≤ 64 := by rw [← hl2]; exact right_comps hr
    obtain ⟨x, hx⟩ : ∃ x, hasB n n' l K = x := ⟨_, rfl⟩
    have hp : printB ss ss' l K = if x = true then (textT ss ss' l K, 0) else ([], 8) := by unfold printB; rw [hr, if_pos rfl, hl1, hl2, hx]
    rw [hp]
    have hin : (rightB ss ss' && hasB n n' l K) = x := by rw [hr, hx]; rfl
    have Hr := Lib.hid hr
    have Hin := Lib.hid hin
    have Hl1 := Lib.hid hl1
    have Hl2 := Lib.hid hl2
    have Hx := Lib.hid hx
    clear hr hl1 hl2 hp hin hx
    go_enter Tryd.func13, Tryd.ntmps13
    go_wp2_with fail
    refine (rright_any B n c n' c' A A' ss ss' _ (by simp; omega) ((h1.alloc hB _).alloc (by simp; omega) _) ((h2.alloc hB _).alloc (by simp; omega) _) hsz).mono ?_
    rintro e w1 ⟨rfl, hb1⟩
    rw [Hr.out]
    have d0 : w1.cell? ⟨w.heap.size, 0, none⟩ = some (.slice A n c) := by rw [hb1.cell (by simp; omega)]; go_simp
    have d1 : w1.cell? ⟨w.heap.size, 1, none⟩ = some (.slice A' n' c') := by rw [hb1.cell (by simp; omega)]; go_simp
    have d2 : w1.cell? ⟨w.heap.size + 1, 0, none⟩ = some (.int .i64 l) := by rw [hb1.cell (by simp)]; go_simp
    have d3 : w1.cell? ⟨w.heap.size + 1, 1, none⟩ = some (.int .u64 K) := by rw [hb1.cell (by simp)]; go_simp
    have hz1 : w.heap.size + 2 ≤ w1.heap.size := by have := hb1.size; simp at this; omega
    have hbw : Below w.heap.size w w1 := hb0.trans (hb1.mono (by simp; omega))
    have s1 := h1.below (hbw.mono hB)
    have s2 := h2.below (hbw.mono hB)
    have hK1 : Hid (∀ W, Below w1.heap.size w1 W → W.cell? ⟨w.heap.size, 0, none⟩ = some (.slice A n c) ∧ W.cell? ⟨w.heap.size, 1, none⟩ = some (.slice A' n' c') ∧ W.cell? ⟨w.heap.size + 1, 0, none⟩ = some (.int .i64 l) ∧ W.cell? ⟨w.heap.size + 1, 1, none⟩ = some (.int .u64 K) ∧ Strs W B A n c ss ∧ Strs W B A' n' c' ss' ∧ Below w.heap.size w W) := Lib.hid fun W hb =>
      ⟨(hb.cell (p := ⟨w.heap.size, 0, none⟩) (by simp; omega)).trans d0, (hb.cell (p := ⟨w.heap.size, 1, none⟩) (by simp; omega)).trans d1, (hb.cell (p := ⟨w.heap.size + 1, 0, none⟩) (by simp; omega)).trans d2, (hb.cell (p := ⟨w.heap.size + 1, 1, none⟩) (by simp; omega)).trans d3, s1.below (hb.mono (by omega)), s2.below (hb.mono (by omega)), hbw.trans (hb.mono (by omega))⟩
    clear hb1 hb0 h1 h2
    go_wp2_with fail
    refine (rin_any B n c n' c' A A' ss ss' l K _ (by omega) s1 s2 hsz hK).mono ?_
    rintro e w2 ⟨rfl, hb2⟩
    rw [Hin.out]
    have hz2 := hb2.size
    clear d0 d1 d2 d3 s1 s2 hbw
    obtain ⟨d0, d1, d2, d3, s1, s2, hw2⟩ := hK1.out _ hb2
    cases x
    · go_wp2
      go_ret2
      exact ⟨rfl, hw2⟩
    · have hh := Hx.out
      unfold hasB at hh
      simp only [Bool.and_eq_true, decide_eq_true_eq] at hh
      obtain ⟨⟨hl0, hln⟩, _⟩ := hh
      obtain ⟨L, rfl⟩ := Int.eq_ofNat_of_zero_le hl0
      obtain ⟨b, off, rfl, hb, hc⟩ := s1.at_ (k := L) (by omega)
      have hcL := hc L (by omega)
      obtain ⟨x, hx⟩ : ∃ x, ss.getD L ByteArray.empty = x := ⟨_, rfl⟩
      rw [hx] at hcL
      have Hlx := Lib.hid hx
      have hsx : x.size ≤ 16 := by
        have hkl : L < ss.length := by rw [Hl1.out]; omega
        rw [← hx, List.getD, List.getElem?_eq_getElem hkl]
        exact hs16 _ (List.mem_append_left _ (List.getElem_mem hkl))
      have Hc16 : Hid (∀ s ∈ ss', s.size ≤ 16) := Lib.hid fun s hs => hs16 s (List.mem_append_right _ hs)
      have hzero := soFar_zero x ss' K
      have Hzero := Lib.hid hzero
      clear hc hx hzero
      go_wp2
      go_loopw [6, 7, 8] (fun s f i wr => ∃ k : Nat, k ≤ n' ∧ i = .int .i64 k ∧ s = .string (soFar x ss' K k) ∧ f = .bool (decide (tailT ss' K k = [])) ∧ Below w1.heap.size w1 wr) (fun _ _ i _ => n' - (intOf i).toNat)
      case atStart => exact ⟨0, Nat.zero_le _, rfl, by rw [Hzero.out], rfl, hb2⟩
      case round =>
        obtain ⟨k, hk, rfl, rfl, rfl, hbr⟩ := hrel
        clear d0 d1 d2 d3 s1 s2 hw2 hcL hb hb2
        obtain ⟨d0, d1, d2, d3, s1, s2, hwr⟩ := hK1.out _ hbr
        have hzr := hbr.size
        have hsk := soFar_len hsx Hc16.out K (i := k) (by omega)
        by_cases hlt : k < n'
        · obtain ⟨y, hy⟩ : ∃ y, K.testBit k = y := ⟨_, rfl⟩
          have hno := soFar_no (x := x) (cs := ss') (i := k) hK
          have hyes := soFar_yes (x := x) (cs := ss') (i := k) hK
          rw [hy] at hno hyes
          obtain ⟨q, hq⟩ : ∃ q, soFar x ss' K k = q := ⟨_, rfl⟩
          rw [hq] at hno hyes hsk ⊢
          obtain ⟨z, hz⟩ : ∃ z, decide (tailT ss' K k = []) = z := ⟨_, rfl⟩
          rw [hz]
          have Hy := Lib.hid hy
          have Hno := Lib.hid hno
          have Hyes := Lib.hid hyes
          have Hz := Lib.hid hz
          clear hy hno hyes hz hq
          go_wp2_with fail
          refine (rhas_any L K k _ (by omega)).mono ?_
          rintro e w3 ⟨rfl, hb3⟩
          rw [Hy.out]
          have hb3' := hbr.trans (hb3.mono hzr)
          have hz3 := hb3'.size
          clear d0 d1 d2 d3 s1 s2 hwr
          obtain ⟨d0, d1, d2, d3, s1, s2, hw3⟩ := hK1.out _ hb3'
          cases y
          · go_wp2
            go_roundw
            case rel =>
              obtain ⟨e1, e2⟩ := Hno.out (by first | rfl | trivial)
              refine ⟨k + 1, by omega, by go_num, by rw [e1], ?_, hb3'⟩
              rw [← Hz.out]
              exact congrArg Value.bool (decide_eq_decide.2 e2.symm)
            case measure => simp [intOf]; omega
          · obtain ⟨b', off', rfl, hb', hc'⟩ := s2.at_ hlt
            have hcy := hc' k hlt
            obtain ⟨yk, hyk⟩ : ∃ y, ss'.getD k ByteArray.empty = y := ⟨_, rfl⟩
            rw [hyk] at hcy
            have hsy : yk.size ≤ 16 := by
              have hkl : k < ss'.length := by rw [Hl2.out]; exact hlt
              rw [← hyk, List.getD, List.getElem?_eq_getElem hkl]
              exact Hc16.out _ (List.getElem_mem hkl)
            have hyy := Hyes.out (by first | rfl | trivial)
            rw [hyk] at hyy
            have Hyy := Lib.hid hyy
            have h47 : (⟨#[47]⟩ : ByteArray).size = 1 := rfl
            have hq1 : (q ++ ⟨#[47]⟩).size = q.size + 1 := by rw [ByteArray.size_append, h47]
            have hq2 : (q ++ ⟨#[47]⟩ ++ ⟨#[47]⟩).size = q.size + 1 + 1 := by rw [ByteArray.size_append, hq1, h47]
            clear hc' hyk hyy
            cases z
            · go_wp2
              go_roundw
              case rel =>
                obtain ⟨e1, _, e3⟩ := Hyy.out
                refine ⟨k + 1, by omega, by go_num, by rw [e3 (of_decide_eq_false Hz.out)], ?_, hb3'⟩
                exact congrArg Value.bool (decide_eq_false e1).symm
              case measure => simp [intOf]; omega
            · go_wp2
              go_roundw
              case rel =>
                obtain ⟨e1, e2, _⟩ := Hyy.out
                refine ⟨k + 1, by omega, by go_num, by rw [e2 (of_decide_eq_true Hz.out)], ?_, hb3'⟩
                exact congrArg Value.bool (decide_eq_false e1).symm
              case measure => simp [intOf]; omega
        · have hk' : k = ss'.length := by rw [Hl2.out]; omega
          have Hfin : Hid (soFar x ss' K k = ⟨(textT ss ss' L K).toArray⟩) := Lib.hid (by
            unfold soFar textT
            rw [hk', Int.toNat_natCast, Hlx.out])
          clear hk'
          go_wp2
          go_ret2
          exact ⟨by rw [← Hfin.out]; rfl, hwr⟩
end Go.Proofs.YtkjiaklpffnhlaaDoor
