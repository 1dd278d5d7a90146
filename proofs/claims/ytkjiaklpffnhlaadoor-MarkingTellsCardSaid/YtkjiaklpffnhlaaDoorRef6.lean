/-
  The document's answer of layer 1, written in Go: a text's label by taking names off, told by the plain function that tells the program's own parsing.
-/
import Derived.Test.YtkjiaklpffnhlaaDoorRef2
import Derived.Test.YtkjiaklpffnhlaaDoorRef4
import Derived.Test.YtkjiaklpffnhlaaDoorRefW
import Derived.Deep.Cut
import Derived.RegionCalls
import Derived.Deep.RegionWith
namespace Go.Proofs.YtkjiaklpffnhlaaDoor
open Go.RowKit

/-- No level below the k-th one gives the text a label. -/
def Past (ls cs : List ByteArray) (s : List UInt8) (k : Nat) : Prop := ∀ u, u < k → Hit ls s u → parseF (idxF ls) (idxF cs) s = none
theorem past_succ {ls cs : List ByteArray} {s : List UInt8} {k : Nat} (h : Past ls cs s k) (hk : Hit ls s k → parseF (idxF ls) (idxF cs) s = none) : Past ls cs s (k + 1) := fun u hu hh => by
  rcases Nat.lt_or_ge u k with h1 | h1
  · exact h u h1 hh
  · have : u = k := by omega
    subst this
    exact hk hh
theorem past_all {ls cs : List ByteArray} {s : List UInt8} (hr : rightB ls cs = true) (h : Past ls cs s ls.length) : parseF (idxF ls) (idxF cs) s = none := by
  cases hp : parseF (idxF ls) (idxF cs) s with
  | none => rfl
  | some q =>
    obtain ⟨L, c⟩ := q
    obtain ⟨h1, h2⟩ := parse_hit hr hp
    rw [h L h1 h2] at hp
    cases hp

/-- What the inner loop holds beside the boxes: the label that grows. -/
def Lab (p : Nat) (v K : Nat) (W : World) : Prop := W.cell? ⟨p, 0, none⟩ = some (.int .i64 v) ∧ W.cell? ⟨p, 1, none⟩ = some (.int .u64 K) ∧ W.frozen? ⟨p, 1, none⟩ = false ∧ p < W.heap.size
theorem Lab.put {p v K : Nat} {W : World} (h : Lab p v K W) (K' : Nat) : Lab p v K' (W.setCell ⟨p, 1, none⟩ (.int .u64 K')).drew := by
  obtain ⟨h1, h2, h3, h4⟩ := h
  exact ⟨by go_simp, by go_simp, by go_simp, by simpa using h4⟩
theorem wrap_put {K k : Nat} (hk : k < 64) (hK : K < 2 ^ k) : IntKind.u64.wrap ((K : Int) + (2 : Int) ^ k) = ((K + 2 ^ k : Nat) : Int) := by
  have := wrap_yes (x := K) hk
  rwa [Nat.mod_eq_of_lt hK] at this

set_option maxHeartbeats 8000000 in
set_option maxRecDepth 100000 in
theorem rparse_any (B n c n' c' : Nat) (A A' : Option Addr) (ss ss' : List ByteArray) (s : ByteArray) (w : World) (hB : B ≤ w.heap.size) (h1 : Strs w B A n c ss) (h2 : Strs w B A' n' c' ss') (hsz : ∀ s ∈ ss ++ ss', s.size ≤ maxLen) :
    Calls Tryd.prog 15 #[.agg #[.slice A n c, .slice A' n' c'], .string s] w fun e w' => e = .returned (parseV (parseB ss ss' s.data.toList)) ∧ Below w.heap.size w w' := by
  have hl1 := h1.len
  have hl2 := h2.len
  have hb0 : Below w.heap.size w ((w.alloc (.cells #[.slice A n c, .slice A' n' c'] 24)).alloc (.cells #[.int .i64 0, .int .u64 0] 27)) := ((Below.refl _ _).alloc (Nat.le_refl _) _).alloc (by simp) _
  cases hr : rightB ss ss' with
  | false =>
    have hfin : parseV (parseB ss ss' s.data.toList) = .tuple #[.agg #[.int .i64 0, .int .u64 0], .int .i64 2] := by unfold parseB; rw [hr]; rfl
    rw [hfin]
    have Hr := Lib.hid hr
    clear hfin hl1 hl2 hr
    go_enter Tryd.func15, Tryd.ntmps15
    go_wp2_with fail
    refine (rright_any B n c n' c' A A' ss ss' _ (by simp; omega) ((h1.alloc hB _).alloc (by simp; omega) _) ((h2.alloc hB _).alloc (by simp; omega) _) hsz).mono ?_
    rintro e w1 ⟨rfl, hb1⟩
    rw [Hr.out]
    have k0 : w1.cell? ⟨w.heap.size + 1, 0, none⟩ = some (.int .i64 0) := by rw [hb1.cell (by simp)]; go_simp
    have k1 : w1.cell? ⟨w.heap.size + 1, 1, none⟩ = some (.int .u64 0) := by rw [hb1.cell (by simp)]; go_simp
    have q0 : w1.frozen? ⟨w.heap.size + 1, 0, none⟩ = false := by rw [hb1.frozen (by simp)]; go_simp
    have q1 : w1.frozen? ⟨w.heap.size + 1, 1, none⟩ = false := by rw [hb1.frozen (by simp)]; go_simp
    have hbw : Below w.heap.size w w1 := hb0.trans (hb1.mono (by simp; omega))
    go_wp2
    exact bodyPost_ret (by simp [results, Tryd.results15, go_sem, k0, k1]) rfl ⟨rfl, (hbw.setCell (p := ⟨w.heap.size + 1, 0, none⟩) (by simp) _).setCell (p := ⟨w.heap.size + 1, 1, none⟩) (by simp) _⟩
  | true =>
    have hpb : parseB ss ss' s.data.toList = parseF (idxF ss) (idxF ss') s.data.toList := by unfold parseB; rw [if_pos hr]
    rw [hpb]
    have hc64 : n' ≤ 64 := by rw [← hl2]; exact right_comps hr
    have hn16 : n ≤ 16 := by rw [← hl1]; exact right_levels hr
    have Hs16 := Lib.hid (right_sizes hr)
    have Hfree := Lib.hid (right_free hr)
    have Hr := Lib.hid hr
    have Hl1 := Lib.hid hl1
    have Hl2 := Lib.hid hl2
    clear hpb hr hl1 hl2
    go_enter Tryd.func15, Tryd.ntmps15
    go_wp2_with fail
    refine (rright_any B n c n' c' A A' ss ss' _ (by simp; omega) ((h1.alloc hB _).alloc (by simp; omega) _) ((h2.alloc hB _).alloc (by simp; omega) _) hsz).mono ?_
    rintro e w1 ⟨rfl, hb1⟩
    rw [Hr.out]
    have k0 : w1.cell? ⟨w.heap.size + 1, 0, none⟩ = some (.int .i64 0) := by rw [hb1.cell (by simp)]; go_simp
    have k1 : w1.cell? ⟨w.heap.size + 1, 1, none⟩ = some (.int .u64 0) := by rw [hb1.cell (by simp)]; go_simp
    have q0 : w1.frozen? ⟨w.heap.size + 1, 0, none⟩ = false := by rw [hb1.frozen (by simp)]; go_simp
    have q1 : w1.frozen? ⟨w.heap.size + 1, 1, none⟩ = false := by rw [hb1.frozen (by simp)]; go_simp
    have d0 : w1.cell? ⟨w.heap.size, 0, none⟩ = some (.slice A n c) := by rw [hb1.cell (by simp; omega)]; go_simp
    have d1 : w1.cell? ⟨w.heap.size, 1, none⟩ = some (.slice A' n' c') := by rw [hb1.cell (by simp; omega)]; go_simp
    have hz1 : w.heap.size + 2 ≤ w1.heap.size := by have := hb1.size; simp at this; omega
    have hbw : Below w.heap.size w w1 := hb0.trans (hb1.mono (by simp; omega))
    have s1 := h1.below (hbw.mono hB)
    have s2 := h2.below (hbw.mono hB)
    have hK : Hid (∀ W, Below w1.heap.size w1 W → W.cell? ⟨w.heap.size, 0, none⟩ = some (.slice A n c) ∧ W.cell? ⟨w.heap.size, 1, none⟩ = some (.slice A' n' c') ∧ W.cell? ⟨w.heap.size + 1, 0, none⟩ = some (.int .i64 0) ∧ W.cell? ⟨w.heap.size + 1, 1, none⟩ = some (.int .u64 0) ∧ W.frozen? ⟨w.heap.size + 1, 0, none⟩ = false ∧ W.frozen? ⟨w.heap.size + 1, 1, none⟩ = false ∧ Strs W B A n c ss ∧ Strs W B A' n' c' ss' ∧ w.heap.size + 2 ≤ W.heap.size ∧ Below w.heap.size w W) := Lib.hid fun W hb =>
      ⟨(hb.cell (p := ⟨w.heap.size, 0, none⟩) (by simp; omega)).trans d0, (hb.cell (p := ⟨w.heap.size, 1, none⟩) (by simp; omega)).trans d1, (hb.cell (p := ⟨w.heap.size + 1, 0, none⟩) (by simp; omega)).trans k0, (hb.cell (p := ⟨w.heap.size + 1, 1, none⟩) (by simp; omega)).trans k1,
        (hb.frozen (p := ⟨w.heap.size + 1, 0, none⟩) (by simp; omega)).trans q0, (hb.frozen (p := ⟨w.heap.size + 1, 1, none⟩) (by simp; omega)).trans q1, s1.below (hb.mono (by omega)), s2.below (hb.mono (by omega)), by have := hb.size; omega, hbw.trans (hb.mono (by omega))⟩
    clear hb1 hb0 h1 h2 hbw
    go_wp2
    go_loopw [6, 7, 8, 9, 10, 11] (fun v _ _ _ _ _ wr => ∃ k : Nat, k ≤ n ∧ v = .int .i64 k ∧ Past ss ss' s.data.toList k ∧ Below w1.heap.size w1 wr) (fun v _ _ _ _ _ _ => n - (intOf v).toNat)
    case atStart => exact ⟨0, Nat.zero_le _, rfl, fun u hu => by omega, Below.refl _ _⟩
    case round =>
      obtain ⟨v, hv, rfl, hpast, hbr⟩ := hrel
      have Hpast := Lib.hid hpast
      clear hpast d0 d1 k0 k1 q0 q1 s1 s2
      obtain ⟨d0, d1, k0, k1, q0, q1, s1, s2, hzr, hwr⟩ := hK.out _ hbr
      by_cases hlt : v < n
      case neg =>
        have Hfin : Hid (parseF (idxF ss) (idxF ss') s.data.toList = none) := Lib.hid (past_all Hr.out (by rw [Hl1.out]; exact (show v = n by omega) ▸ Hpast.out))
        go_wp2
        exact bodyPost_ret (v := .tuple #[.agg #[.int .i64 0, .int .u64 0], .int .i64 2]) (by simp [results, Tryd.results15, go_sem, k0, k1]) rfl ⟨by rw [Hfin.out]; rfl, (hwr.setCell (p := ⟨w.heap.size + 1, 0, none⟩) (by simp) _).setCell (p := ⟨w.heap.size + 1, 1, none⟩) (by simp) _⟩
      have hvl : v < ss.length := by rw [Hl1.out]; exact hlt
      obtain ⟨b, off, rfl, hb, hc⟩ := s1.at_ hlt
      have hcx := hc v hlt
      obtain ⟨nm, hnm⟩ : ∃ x, ss.getD v ByteArray.empty = x := ⟨_, rfl⟩
      rw [hnm] at hcx
      have hnz : nm.size ≤ 16 := by
        rw [← hnm, List.getD, List.getElem?_eq_getElem hvl]
        exact Hs16.out _ (List.mem_append_left _ (List.getElem_mem hvl))
      have hways := level_ways ss s nm v hnm
      have Hbare := Lib.hid (parse_bare Hr.out hvl)
      have Hwith := Lib.hid (parse_with Hr.out hvl)
      have Hrest := Lib.hid (fun T => rest_ways ss s T v)
      clear hc hnm hvl
      have hnext : (Hit ss s.data.toList v → parseF (idxF ss) (idxF ss') s.data.toList = none) → Past ss ss' s.data.toList (v + 1) := past_succ Hpast.out
      have Hnext := Lib.hid hnext
      clear hnext
      rcases hways with ⟨g1, g2⟩ | ⟨g1, g2, g3⟩ | ⟨g1, g2, g3⟩
      · have Hm := Lib.hid (Hnext.out fun h => absurd h g2)
        clear g2
        go_wp2
        go_roundw
        case rel => exact ⟨v + 1, by omega, by go_num, Hm.out, hbr⟩
        case measure => simp [intOf]; omega
      · have Hm := Lib.hid (Hnext.out fun h => absurd h g3)
        clear g3
        go_wp2
        go_roundw
        case rel => exact ⟨v + 1, by omega, by go_num, Hm.out, hbr⟩
        case measure => simp [intOf]; omega
      have hrw := Hrest.out _ g3
      have hTs : (s.extract nm.size s.size).size ≤ s.size := by
        have := congrArg List.length g3
        rw [List.length_append, ← size_len, ← size_len] at this
        omega
      clear g3 Hrest
      go_upto_region 10 with fail
      have hbp : Below w1.heap.size w1 (wr.alloc (.cells #[.int .i64 v, .int .u64 0] 27)) := hbr.alloc hbr.size _
      have hlab : Lab wr.heap.size v 0 (wr.alloc (.cells #[.int .i64 v, .int .u64 0] 27)) := ⟨by go_simp, by go_simp, by go_simp, by simp⟩
      have hwrs : w1.heap.size ≤ wr.heap.size := hbr.size
      clear d0 d1 k0 k1 q0 q1 s1 s2 hcx hb
      generalize s.extract nm.size s.size = T at hrw hTs ⊢
      revert hbp hlab
      generalize (wr.alloc (.cells #[.int .i64 v, .int .u64 0] 27)) = w3
      intro hbp hlab
      generalize wr.heap.size = p at hlab hwrs ⊢
      have Hlab := Lib.hid hlab
      obtain ⟨l0, l1, lf, lz⟩ := hlab
      obtain ⟨d0, d1, k0, k1, q0, q1, s1, s2, hz3, hw3⟩ := hK.out _ hbp
      rcases hrw with ⟨t1, t2, t3⟩ | ⟨t1, t2, t3, t4⟩ | ⟨t1, t2, t3, t4, t5⟩ | ⟨t1, t2, t3, t4, r, t5, t6, t7⟩
      · have Hfin : Hid (parseF (idxF ss) (idxF ss') s.data.toList = some (v, 0)) := Lib.hid (by rw [t3]; exact Hbare.out)
        clear t3
        go_wp2
        exact bodyPost_ret (v := .tuple #[.agg #[.int .i64 v, .int .u64 0], .int .i64 0]) (by simp [results, Tryd.results15, go_sem, k0, k1]) rfl ⟨by rw [Hfin.out]; rfl, (hw3.setCell (p := ⟨w.heap.size + 1, 0, none⟩) (by simp) _).setCell (p := ⟨w.heap.size + 1, 1, none⟩) (by simp) _⟩
      · have Hm := Lib.hid (Hnext.out fun h => absurd h t4)
        clear t4
        go_wp2
        go_roundw
        case rel => exact ⟨v + 1, by omega, by go_num, Hm.out, hbp⟩
        case measure => simp [intOf]; omega
      · have Hm := Lib.hid (Hnext.out fun h => absurd h t5)
        clear t5
        go_wp2
        go_roundw
        case rel => exact ⟨v + 1, by omega, by go_num, Hm.out, hbp⟩
        case measure => simp [intOf]; omega
      have hpw := Hwith.out r
      rw [← t6] at hpw
      have hinv := runG_pcs (cs := ss') (ps := splitB 47 r) (by rw [Hl2.out]; exact hc64) Hfree.out.2 (split_free r)
      rw [Hl2.out] at hinv hpw
      have hnf := nm_free (cs := ss') Hfree.out.2
      generalize splitB 47 r = ps at t7 hpw hinv
      have Hpw := Lib.hid hpw
      have Hinv := Lib.hid hinv
      have Hnf := Lib.hid hnf
      have Ht7 := Lib.hid t7
      clear hpw hinv hnf t6 t7 t5 Hwith Hbare
      go_wp2
      go_loopw [9, 10, 11] (fun rv iv _ wi => ∃ (k : Nat) (R : ByteArray), k ≤ n' ∧ iv = .int .i64 k ∧ rv = .string R ∧ R = ⟨(flat (runG ss' ps k).2).toArray⟩ ∧ Lab p v (runG ss' ps k).1 wi ∧ Below w1.heap.size w1 wi) (fun _ iv _ _ => n' - (intOf iv).toNat)
      case atStart => exact ⟨0, _, Nat.zero_le _, rfl, rfl, Ht7.out, Hlab.out, hbp⟩
      case round =>
        obtain ⟨k, R, hk, rfl, rfl, hR, hlab, hbi⟩ := hrel
        clear l0 l1 lf lz d0 d1 k0 k1 q0 q1 s1 s2 hz3 hw3
        obtain ⟨i1, i2, i3⟩ := Hinv.out k hk
        obtain ⟨⟨K, P⟩, hKP⟩ : ∃ q, runG ss' ps k = q := ⟨_, rfl⟩
        have hgy := runG_yes (cs := ss') (ps := ps) (i := k)
        have hgn := runG_no (cs := ss') (ps := ps) (i := k)
        rw [hKP] at hR hlab i2 i3 hgy hgn
        simp only at hR hlab i2 i3 hgy hgn
        have Hlab2 := Lib.hid hlab
        have HKP := Lib.hid hKP
        obtain ⟨l0, l1, lf, lz⟩ := hlab
        obtain ⟨d0, d1, k0, k1, q0, q1, s1, s2, hz3, hw3⟩ := hK.out _ hbi
        have hbz := hbi.size
        clear i1 hKP
        by_cases hkl : k < n'
        case neg =>
          obtain rfl : k = n' := by omega
          rw [HKP.out] at Hpw
          simp only at Hpw
          cases P with
          | nil =>
            have hq1 : (R.toList == []) = true := by rw [hR, bytes_list]; rfl
            have hq2 : R.toList.isEmpty = true := by rw [hR, bytes_list]; rfl
            have Hfin : Hid (parseF (idxF ss) (idxF ss') s.data.toList = some (v, (K : Int))) := Lib.hid (by rw [Hpw.out, if_pos rfl])
            clear hR hgy hgn
            go_wp2
            exact bodyPost_ret (v := .tuple #[.agg #[.int .i64 v, .int .u64 K], .int .i64 0]) (by simp [results, Tryd.results15, go_sem, k0, k1]) rfl ⟨by rw [Hfin.out]; rfl, (hw3.setCell (p := ⟨w.heap.size + 1, 0, none⟩) (by simp) _).setCell (p := ⟨w.heap.size + 1, 1, none⟩) (by simp) _⟩
          | cons p P =>
            have hRl : R.toList = 47 :: (p ++ flat P) := by rw [hR, flat_cons, bytes_list]
            have hq1 : (R.toList == []) = false := by rw [hRl]; rfl
            have hq2 : R.toList.isEmpty = false := by rw [hRl]; rfl
            have Hm := Lib.hid (Hnext.out fun _ => by rw [Hpw.out, if_neg (by simp)])
            clear hR hgy hgn hRl
            go_wp2
            go_roundw
            case rel => exact ⟨v + 1, by omega, by go_num, Hm.out, hbi⟩
            case measure => simp [intOf]; omega
        obtain ⟨b2, off2, rfl, hb2, hc2⟩ := s2.at_ hkl
        have hcy := hc2 k hkl
        obtain ⟨nc, hnc⟩ : ∃ x, ss'.getD k ByteArray.empty = x := ⟨_, rfl⟩
        rw [hnc] at hcy
        have hncs : nc.size ≤ 16 := by
          have hkl2 : k < ss'.length := by rw [Hl2.out]; exact hkl
          rw [← hnc, List.getD, List.getElem?_eq_getElem hkl2]
          exact Hs16.out _ (List.mem_append_right _ (List.getElem_mem hkl2))
        have hC : (⟨#[47]⟩ ++ nc : ByteArray).data.toList = 47 :: nmL ss' k := by
          unfold nmL
          rw [hnc]
          simp [ByteArray.data_append]
        have hCs : (⟨#[47]⟩ ++ nc : ByteArray).size = nc.size + 1 := by
          rw [size_len, hC]
          unfold nmL
          rw [hnc, List.length_cons, ← size_len]
        have hwr2 := wrap_put (show k < 64 by omega) i2
        have hfn := Hnf.out k
        have h47 : (⟨#[47]⟩ : ByteArray).size = 1 := rfl
        have HR := Lib.hid hR
        have Hgy := Lib.hid hgy
        have Hgn := Lib.hid hgn
        have Hi3 := Lib.hid i3
        have Hwr := Lib.hid hwr2
        have Hfn := Lib.hid hfn
        have HC := Lib.hid hC
        clear hc2 hnc hR hgy hgn i3 hwr2 hfn hC
        go_upto_region 18 with fail
        have hC := HC.out
        clear HC
        generalize (⟨#[47]⟩ ++ nc : ByteArray) = C at hC hCs ⊢
        have hgw := goes_ways R C _ _ HR.out hC
        have HC := Lib.hid hC
        clear hC
        clear hCs h47
        rcases hgw with ⟨g1, g2⟩ | ⟨g1, g2, g3⟩ | ⟨g1, g2, g3, g4⟩ | ⟨g1, g2, ⟨g0, g3⟩, g4⟩ | ⟨g1, g2, ⟨g0, g3⟩, g4⟩
        · have Hst := Lib.hid (Hgn.out g2)
          clear g2
          go_wp2
          go_roundw
          case rel =>
            refine ⟨k + 1, R, by omega, by go_num, rfl, ?_, ?_, hbi⟩
            · rw [Hst.out]; exact HR.out
            · rw [Hst.out]; exact Hlab2.out
          case measure => simp [intOf]; omega
        · have Hst := Lib.hid (Hgn.out g3)
          clear g3
          go_wp2
          go_roundw
          case rel =>
            refine ⟨k + 1, R, by omega, by go_num, rfl, ?_, ?_, hbi⟩
            · rw [Hst.out]; exact HR.out
            · rw [Hst.out]; exact Hlab2.out
          case measure => simp [intOf]; omega
        · have Hst := Lib.hid (Hgy.out g4)
          have Htl := Lib.hid (goes_tail HR.out HC.out Hi3.out Hfn.out g4)
          have Htl3 : Hid (ByteArray.empty = ⟨(flat P.tail).toArray⟩) := Lib.hid (by
            rw [← Htl.out]
            apply ByteArray.ext
            apply Array.ext'
            rw [Lib.extract_data, g3]
            simp)
          clear g4
          go_wp2_with fail
          go_region_with (first | (go_at_call 42; refine (rbit_any k _ (by omega)).mono ?_; rintro e wz ⟨rfl, rfl⟩))
          all_goals
            go_wp2
            go_roundw
            case rel =>
              refine ⟨k + 1, _, by omega, by go_num, rfl, ?_, ?_, (hbi.setCell (p := ⟨p, 1, none⟩) (by simp; omega) _).drew⟩
              · rw [Hst.out]; exact Htl3.out
              · rw [Hst.out, Hwr.out]; exact Hlab2.out.put _
            case measure => simp [intOf]; omega
        · have Hst := Lib.hid (Hgy.out g4)
          have Htl := Lib.hid (goes_tail HR.out HC.out Hi3.out Hfn.out g4)
          clear g4
          go_wp2_with fail
          go_region_with (first | (go_at_call 42; refine (rbit_any k _ (by omega)).mono ?_; rintro e wz ⟨rfl, rfl⟩))
          all_goals
            go_wp2
            go_roundw
            case rel =>
              refine ⟨k + 1, _, by omega, by go_num, rfl, ?_, ?_, (hbi.setCell (p := ⟨p, 1, none⟩) (by simp; omega) _).drew⟩
              · rw [Hst.out]; exact Htl.out
              · rw [Hst.out, Hwr.out]; exact Hlab2.out.put _
            case measure => simp [intOf]; omega
        · have Hst := Lib.hid (Hgn.out g4)
          clear g4
          go_wp2
          go_roundw
          case rel =>
            refine ⟨k + 1, R, by omega, by go_num, rfl, ?_, ?_, hbi⟩
            · rw [Hst.out]; exact HR.out
            · rw [Hst.out]; exact Hlab2.out
          case measure => simp [intOf]; omega
end Go.Proofs.YtkjiaklpffnhlaaDoor
