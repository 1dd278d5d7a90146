/-
  LatticeNames returns true, for any lists of strings, any label, any text and any small number, in any memory that holds the length bound of the string search: the walk.
-/
import Derived.Test.YtmkkdkgmiplnfaaDoorNParse
import Derived.Test.YtmkkdkgmiplnfaaDoorAwake
import Derived.Test.YtmkkdkgmiplnfaaDoorFew
namespace Go.Proofs.YtmkkdkgmiplnfaaDoor
open Go.RowKit Go.Maps

theorem parseV_form (r : Option (Nat × Int)) : ∃ x y z : Int, parseV r = .tuple #[.agg #[.int .i64 x, .int .u64 y], .int .i64 z] := by
  rcases r with _ | ⟨lv, cm⟩
  · exact ⟨0, 0, 2, rfl⟩
  · exact ⟨lv, cm, 0, rfl⟩

set_option maxRecDepth 100000 in
set_option maxHeartbeats 4000000 in
theorem names_walk (B n c n' c' : Nat) (A A' : Option Addr) (ss ss' : List ByteArray) (l k : Int) (s : ByteArray) (times m : Int) (w : World) (hB : B ≤ w.heap.size) (h1 : Strs w B A n c ss) (h2 : Strs w B A' n' c' ss') (hsz : ∀ s ∈ ss ++ ss', s.size ≤ maxLen)
    (hm : w.cell? ⟨0, 0, none⟩ = some (.int .i64 m)) (ht : 0 ≤ times ∧ times < 256) :
    Calls Tryd.prog 8 #[.agg #[.slice A n c, .slice A' n' c'], .agg #[.int .i64 l, .int .u64 k], .string s, .int .u8 times] w fun e w' => e = .returned (.bool true) ∧ Below w.heap.size w w' := by
  have hnot : ∀ (x : Bool) (w : World), (Op.unary .not (.bool x)).run Tryd.prog w = .ok (.bool (!x)) w := fun _ _ => rfl
  have h0 := lt_of_cell hm
  simp at h0
  have hbw : Below w.heap.size w ((w.alloc (.cells #[.slice A n c, .slice A' n' c'] 24)).alloc (.cells #[.int .i64 l, .int .u64 k] 27)) := ((Below.refl _ _).alloc (Nat.le_refl _) _).alloc (by simp) _
  have hm1 := (hbw.cell (p := ⟨0, 0, none⟩) (by simpa using h0)).trans hm
  have haw := awake_any m _ hm1
  go_enter Tryd.func8, Tryd.ntmps8
  go_wp2_with fail
  refine haw.mono ?_
  rintro e w1 ⟨rfl, hb1⟩
  have a0 : w1.cell? ⟨w.heap.size, 0, none⟩ = some (.slice A n c) := by rw [hb1.cell (by simp; try omega)]; go_simp
  have a1 : w1.cell? ⟨w.heap.size, 1, none⟩ = some (.slice A' n' c') := by rw [hb1.cell (by simp; try omega)]; go_simp
  have b0 : w1.cell? ⟨w.heap.size + 1, 0, none⟩ = some (.int .i64 l) := by rw [hb1.cell (by simp; try omega)]; go_simp
  have b1 : w1.cell? ⟨w.heap.size + 1, 1, none⟩ = some (.int .u64 k) := by rw [hb1.cell (by simp; try omega)]; go_simp
  have hz1 : w.heap.size + 2 ≤ w1.heap.size := by have := hb1.size; simp at this; omega
  have hbw1 : Below w.heap.size w w1 := hbw.trans (hb1.mono (by simp; omega))
  have s1 := h1.below (hbw1.mono hB)
  have s2 := h2.below (hbw1.mono hB)
  have hm2 := (hbw1.cell (p := ⟨0, 0, none⟩) (by simpa using h0)).trans hm
  clear hb1 hbw hm hm1 haw h1 h2
  go_wp2_with fail
  refine (few_any B n c n' c' A A' ss ss' w1 (by omega) s1 s2 hsz).mono ?_
  rintro e w2 ⟨⟨b, rfl⟩, hb2⟩
  have hbw2 : Below w.heap.size w w2 := hbw1.trans (hb2.mono (by omega))
  cases b
  · go_wp2
    go_ret
    exact ⟨rfl, hbw2⟩
  by_cases hs : s.size > 3000
  · go_wp2
    go_ret
    exact ⟨rfl, hbw2⟩
  have a2 := (hb2.cell (p := ⟨w.heap.size, 0, none⟩) (by simp; omega)).trans a0
  have a3 := (hb2.cell (p := ⟨w.heap.size, 1, none⟩) (by simp; omega)).trans a1
  have b2 := (hb2.cell (p := ⟨w.heap.size + 1, 0, none⟩) (by simp; omega)).trans b0
  have b3 := (hb2.cell (p := ⟨w.heap.size + 1, 1, none⟩) (by simp; omega)).trans b1
  have s3 := s1.below (hb2.mono (by omega))
  have s4 := s2.below (hb2.mono (by omega))
  have hm3 := (hbw2.cell (p := ⟨0, 0, none⟩) (by simpa using h0)).trans ((hbw1.cell (p := ⟨0, 0, none⟩) (by simpa using h0)).symm.trans hm2)
  have hz2 : w.heap.size + 2 ≤ w2.heap.size := by have := hb2.size; omega
  clear hb2 a0 a1 b0 b1 s1 s2 hm2 hbw1
  cases hr : rightB ss ss' with
  | false =>
    go_wp2_with fail
    refine (new_no B n c n' c' A A' ss ss' w2 (by omega) s3 s4 hsz hr).mono ?_
    rintro e w3 ⟨rfl, hb3⟩
    have a4 := (hb3.cell (p := ⟨w.heap.size, 0, none⟩) (by simp; omega)).trans a2
    have a5 := (hb3.cell (p := ⟨w.heap.size, 1, none⟩) (by simp; omega)).trans a3
    have s5 := s3.below (hb3.mono (by omega))
    have s6 := s4.below (hb3.mono (by omega))
    have hz3 := hb3.size
    have hbw3 := hbw2.trans (hb3.mono (by omega))
    go_wp2_with fail
    refine (right_any B n c n' c' A A' ss ss' w3 (by omega) s5 s6 hsz).mono ?_
    rintro e w4 ⟨rfl, hb4⟩
    rw [hr]
    go_wp2
    go_ret
    exact ⟨rfl, hbw3.trans (hb4.mono (by omega))⟩
  | true =>
    go_wp2_with fail
    refine (new_yes B n c n' c' A A' ss ss' w2 (by omega) s3 s4 hsz hr).mono ?_
    rintro e w3 ⟨N, rfl, hN, ⟨A1, c1, A2, c2, hNm, q1, q2⟩, hb3⟩
    have a4 := (hb3.cell (p := ⟨w.heap.size, 0, none⟩) (by simp; omega)).trans a2
    have a5 := (hb3.cell (p := ⟨w.heap.size, 1, none⟩) (by simp; omega)).trans a3
    have b4 := (hb3.cell (p := ⟨w.heap.size + 1, 0, none⟩) (by simp; omega)).trans b2
    have b5 := (hb3.cell (p := ⟨w.heap.size + 1, 1, none⟩) (by simp; omega)).trans b3
    have s5 := s3.below (hb3.mono (by omega))
    have s6 := s4.below (hb3.mono (by omega))
    have hz3 := hb3.size
    have hbw3 := hbw2.trans (hb3.mono (by omega))
    have hm4 := (hb3.cell (p := ⟨0, 0, none⟩) (by simp; omega)).trans hm3
    clear hb3 a2 a3 b2 b3 s3 s4 hm3 hbw2
    go_wp2_with fail
    refine (right_any B n c n' c' A A' ss ss' w3 (by omega) s5 s6 hsz).mono ?_
    rintro e w4 ⟨rfl, hb4⟩
    rw [hr]
    have hz4 := hb4.size
    have hlt3 := hNm.lt
    have hat : NamesAt w4 N n c1 n' c2 A1 A2 ss ss' (2 * (0 : Nat)) := NamesAt.grown (.inl ⟨hNm, q1, q2⟩) (grownBy_of_below hb4 none)
    have hw4 : Below (w.heap.size + 2) w3 w4 := hb4.mono (by omega)
    obtain ⟨x, y, z, hpv⟩ := parseV_form (parseB ss ss' s.data.toList)
    have Hpv := Lib.hid hpv
    have Hr := Lib.hid hr
    have Hsz := Lib.hid hsz
    have Hs5 := Lib.hid s5
    have Hs6 := Lib.hid s6
    have htm : 0 ≤ times % 6 ∧ times % 6 < 6 := by omega
    clear hb4 hNm q1 q2 hr hpv hsz s5 s6
    go_wp2_with fail
    go_loopw [11] (fun i wr => ∃ j : Nat, j ≤ 6 ∧ i = .int .i64 j ∧ NamesAt wr N n c1 n' c2 A1 A2 ss ss' (2 * (j : Int)) ∧ Below (w.heap.size + 2) w3 wr ∧ w3.heap.size ≤ wr.heap.size) (fun i _ => 6 - (intOf i).toNat)
    case atStart => exact ⟨0, Nat.zero_le _, rfl, hat, hw4, hz4⟩
    case round =>
      rename_i wr
      obtain ⟨j, hj, rfl, hatr, hwr, hzr⟩ := hrel
      by_cases hlt : (j : Int) < times % 6
      · have d0 := (hwr.cell (p := ⟨w.heap.size, 0, none⟩) (by simp)).trans a4
        have d1 := (hwr.cell (p := ⟨w.heap.size, 1, none⟩) (by simp)).trans a5
        have d2 := (hwr.cell (p := ⟨w.heap.size + 1, 0, none⟩) (by simp)).trans b4
        have d3 := (hwr.cell (p := ⟨w.heap.size + 1, 1, none⟩) (by simp)).trans b5
        go_wp2_with fail
        refine (nprint_any N n c1 n' c2 A1 A2 ss ss' l k (2 * (j : Int)) wr hatr Hr.out).mono ?_
        rintro e v1 ⟨rfl, hM1, g1⟩
        rw [IntWalk.wrap64_in (2 * (j : Int) + 1) (by omega)] at hM1
        have hb1 := below_of_grownBy (B := w.heap.size + 2) g1 (by omega) (by omega)
        have hv1 := hwr.trans hb1
        have hsz1 := g1.size
        have d4 := (hv1.cell (p := ⟨w.heap.size, 0, none⟩) (by simp)).trans a4
        have d5 := (hv1.cell (p := ⟨w.heap.size, 1, none⟩) (by simp)).trans a5
        have d6 := (hv1.cell (p := ⟨w.heap.size + 1, 0, none⟩) (by simp)).trans b4
        have d7 := (hv1.cell (p := ⟨w.heap.size + 1, 1, none⟩) (by simp)).trans b5
        clear d0 d1 d2 d3 hatr g1 hb1
        go_wp2_with fail
        refine (print_any B n c n' c' A A' ss ss' l k v1 (by omega) (Hs5.out.below (hv1.mono (by omega))) (Hs6.out.below (hv1.mono (by omega))) Hsz.out).mono ?_
        rintro e v2 ⟨rfl, hb2⟩
        have hM2 := hM1.grown (grownBy_of_below hb2 none)
        have hv2 := hv1.trans (hb2.mono (by omega))
        have hsz2 := hb2.size
        have hm5 := (hv2.cell (p := ⟨0, 0, none⟩) (by simp)).trans hm4
        have d0 := (hv2.cell (p := ⟨w.heap.size, 0, none⟩) (by simp)).trans a4
        have d1 := (hv2.cell (p := ⟨w.heap.size, 1, none⟩) (by simp)).trans a5
        clear d4 d5 d6 d7 hM1 hb2
        generalize printB ss ss' l k = R
        go_wp2_with fail
        refine (nparse_any N n c1 n' c2 A1 A2 ss ss' s (2 * (j : Int) + 1) m v2 hM2.at_ Hr.out (by omega) hm5 (by omega)).mono ?_
        rintro e v3 ⟨rfl, hM3, g3⟩
        rw [Hpv.out]
        rw [show wrap64 (2 * (j : Int) + 1 + 1) = 2 * (j : Int) + 2 from by rw [IntWalk.wrap64_in _ (by omega)]; omega] at hM3
        have hb3 := below_of_grownBy (B := w.heap.size + 2) g3 (by omega) (by omega)
        have hv3 := hv2.trans hb3
        have hsz3 := g3.size
        have e0 := (hv3.cell (p := ⟨w.heap.size, 0, none⟩) (by simp)).trans a4
        have e1 := (hv3.cell (p := ⟨w.heap.size, 1, none⟩) (by simp)).trans a5
        have hlv : w.heap.size < v3.heap.size := by omega
        clear d0 d1 hM2 g3 hb3 hm5
        go_wp2_with fail
        have hb4 : Below v3.heap.size v3 (v3.alloc (.cells #[.int .i64 x, .int .u64 y] 27)) := (Below.refl _ _).alloc (Nat.le_refl _) _
        have hv4 := hv3.trans (hb4.mono (by omega))
        have hM4 := hM3.grown (grownBy_of_below hb4 none)
        have hm6 := (hv4.cell (p := ⟨0, 0, none⟩) (by simp)).trans hm4
        have hsz4 : (v3.alloc (.cells #[.int .i64 x, .int .u64 y] 27)).heap.size = v3.heap.size + 1 := by simp
        refine (parse_any B n c n' c' A A' ss ss' s m _ (by omega) (Hs5.out.below (hv4.mono (by omega))) (Hs6.out.below (hv4.mono (by omega))) Hsz.out (by omega) hm6).mono ?_
        rintro e v5 ⟨rfl, hb5⟩
        rw [Hpv.out]
        have hv5 := hv4.trans (hb5.mono (by omega))
        have hM5 := hM4.grown (grownBy_of_below hb5 none)
        have k0 : v5.cell? ⟨v3.heap.size, 0, none⟩ = some (.int .i64 x) := by rw [hb5.cell (by simp)]; go_simp
        have k1 : v5.cell? ⟨v3.heap.size, 1, none⟩ = some (.int .u64 y) := by rw [hb5.cell (by simp)]; go_simp
        have hsz5 := hb5.size
        have hlv5 : v3.heap.size < v5.heap.size := by omega
        have hb6 : Below v5.heap.size v5 (v5.alloc (.cells #[.int .i64 x, .int .u64 y] 27)) := (Below.refl _ _).alloc (Nat.le_refl _) _
        have hM6 := hM5.grown (grownBy_of_below hb6 none)
        have hv6 := hv5.trans (hb6.mono (by omega))
        obtain ⟨ml, mc, hN6, _⟩ := id hM6.2.2
        clear hM3 hM4 hM5 hb4 hb5 hb6 hm6 e0 e1
        go_wp2_with (go_at_call 30; refine (nasked_any N n c1 n' c2 A1 A2 1 0 (2 * (j : Int) + 2) (some ml) (some mc) _ hN6 (by omega)).mono ?_; rintro e v7 ⟨rfl, rfl⟩)
        refine ⟨⟨j + 1, by omega, by go_num, ?_, hv6, hv6.size⟩, by simp [intOf]; omega⟩
        have hfin := hM6.at_
        rwa [show 2 * ((j + 1 : Nat) : Int) = 2 * (j : Int) + 2 from by omega]
      · have hwe : Below w.heap.size w wr := hbw3.trans (hwr.mono (by omega))
        go_wp2
        go_ret
        exact ⟨rfl, hwe⟩
end Go.Proofs.YtmkkdkgmiplnfaaDoor
