/-
  The document's answer of layer 3, written in Go: the letters of bytes, told by the plain function.
-/
import Derived.Test.YtjkcjbbkplonkaaDoorR3A
import Derived.Maps.OwnSet
import Derived.Laws.BytesArg
import Derived.Lib.UnsafeStr
import Derived.Lib.BufferWrite
import Derived.Laws.AppendOwn
import Derived.LoopIn
import Derived.Deep.LoopGhost
namespace Go.Proofs.YtjkcjbbkplonkaaDoor
open Go.RowKit

theorem infoB3 : (Tryd.prog.info? 5).map (fun i => (i.zero, i.size, i.bytes)) = some (some (.int .u8 0), 1, 1) := by kernel_rfl
theorem acc_lt (s : List UInt8) (i : Nat) : ∀ k, accB s i k < 2 ^ k
  | 0 => by simp [accB]
  | k + 1 => by
    have ih := acc_lt s i k
    have hb : bitAt s (i + k) < 2 := Nat.mod_lt _ (by omega)
    rw [accB, Nat.pow_succ]
    omega
theorem sixes_succ (s : List UInt8) (m : Nat) : sixes s (m + 1) = sixes s m ++ [letterB (accB s (6 * m) 6)] := by
  unfold sixes
  rw [List.range_succ, List.map_append]
  rfl
set_option maxRecDepth 100000 in
/-- A row of bytes of the call's own, as a text. -/
theorem conv_own {w : World} {base : Nat} {v : Value} {n : Nat} {l : List UInt8} (h : w.ownsRow base 5 1 v n (Lib.byteCells l)) : (convert 34 9 v).run Tryd.prog w = .ok (.string ⟨l.toArray⟩) w := by
  have hl : l.length = n := by
    have := h.1
    rw [Lib.byteCells_length] at this
    omega
  rcases h.2 with ⟨rfl, rfl⟩ | ⟨g, cap, cur, rfl, hb, hg, hnc, hcm, hcs, ht⟩
  · have hn : l = [] := List.eq_nil_of_length_eq_zero hl
    subst hn
    exact run_convert_bytes_nil w 34 5 Tryd.underlying34 Tryd.underlying5 0 0 9 Tryd.underlying9
  · have := run_convert_bytes_arg (P := Tryd.prog) w 34 5 Tryd.underlying34 Tryd.underlying5 g 0 n cap (l.map fun b => (b.toNat : Int)) (by rw [List.length_map, hl]) (fun i hi => by
      have hc := h.cells (g := g) rfl i (.int .u8 ((l.map fun b => (b.toNat : Int)).getD i 0)) (by
        unfold Lib.byteCells
        rw [List.getElem?_map, List.getElem?_eq_getElem (by omega)]
        simp [List.getD, List.getElem?_map, List.getElem?_eq_getElem (show i < l.length by omega)])
      rw [Addr.add_lit] at hc
      exact hc) 9 Tryd.underlying9
    rw [this]
    congr 2
    unfold strOfNums
    congr 1
    simp [List.map_map, Function.comp_def]

set_option maxRecDepth 100000 in
set_option maxHeartbeats 4000000 in
theorem r3enc_any (s : ByteArray) (w : World) (hs : s.size < 400000000) :
    Calls Tryd.prog 19 #[.string s] w fun e w' => e = .returned (.string ⟨(encB s.data.toList).toArray⟩) ∧ Below w.heap.size w w' := by
  obtain ⟨i0, hi, hz0, hz1, hz2⟩ := info_parts infoB3
  have henc := enc_sixes s.data.toList
  have hlen : s.data.toList.length = s.size := rfl
  rw [hlen] at henc
  have hN : sixN s.size = (8 * s.size + 5) / 6 := rfl
  generalize sixN s.size = N at henc hN
  have Henc := Lib.hid henc
  have hNle : 6 * N ≤ 8 * s.size + 5 := by omega
  have hNge : 8 * s.size ≤ 6 * N := by omega
  have hown0 : w.ownsRow w.heap.size 5 1 (.slice none 0 0) 0 (Lib.byteCells (sixes s.data.toList 0)) := World.ownsRow_nil _ _ _ _
  clear henc hlen hN
  go_enter Tryd.func19, Tryd.ntmps19
  go_wp2
  go_loopw [3, 4, 5, 6] (fun o i _ _ wr => ∃ (m : Nat) (v : Value), m ≤ N ∧ i = .int .i64 ((6 * m : Nat) : Int) ∧ o = v ∧ wr.ownsRow w.heap.size 5 1 v m (Lib.byteCells (sixes s.data.toList m)) ∧ Below w.heap.size w wr) (fun _ i _ _ _ => 6 * N - (intOf i).toNat)
  case atStart => exact ⟨0, _, Nat.zero_le _, rfl, rfl, hown0, Below.refl _ _⟩
  case round =>
    obtain ⟨m, v, hm, rfl, hv, hown, hbr⟩ := hrel
    subst hv
    have hbz := hbr.size
    by_cases hlt : m < N
    · have hss := sixes_succ s.data.toList m
      obtain ⟨q, hq⟩ : ∃ q, 6 * m = q := ⟨_, rfl⟩
      have hq1 : q < 8 * s.size := by omega
      have hq2 : q < 3200000000 := by omega
      have hq3 : 6 * (m + 1) = q + 6 := by omega
      rw [hq] at hss ⊢
      have hacc := acc_lt s.data.toList q
      have Hss := Lib.hid hss
      have Hacc := Lib.hid hacc
      have Hq3 := Lib.hid hq3
      have hd : decide ((q : Int) < 8 * (s.size : Int)) = true := decide_eq_true (by omega)
      clear hss hq hacc hq3
      go_wp2
      go_loop [5, 6] (fun vv kv => ∃ kk : Nat, kk ≤ 6 ∧ kv = .int .i64 kk ∧ vv = .int .i64 (accB s.data.toList q kk)) (fun _ kv => 6 - (intOf kv).toNat)
      case atStart => exact ⟨0, by omega, rfl, rfl⟩
      case round =>
        obtain ⟨kk, hk, rfl, rfl⟩ := hrel
        by_cases hk6 : kk < 6
        · have hA : accB s.data.toList q kk < 64 := Nat.lt_of_lt_of_le (Hacc.out kk) (show 2 ^ kk ≤ 2 ^ 6 from Nat.pow_le_pow_right (by omega) (by omega))
          have hb2 : bitAt s.data.toList (q + kk) < 2 := Nat.mod_lt _ (by omega)
          have hst : accB s.data.toList q (kk + 1) = 2 * accB s.data.toList q kk + bitAt s.data.toList (q + kk) := rfl
          have hcall := r3bit_any s (q + kk) wr (by omega) (by omega)
          rw [Int.natCast_add] at hcall
          generalize accB s.data.toList q kk = a at hA hst ⊢
          generalize bitAt s.data.toList (q + kk) = b at hb2 hst hcall
          have Hst := Lib.hid hst
          clear hst
          go_wp2_with fail
          refine hcall.mono ?_
          rintro e w' ⟨rfl, hw'⟩
          rw [hw']
          clear hw' hcall
          go_wp2
          go_round
          case rel => exact ⟨kk + 1, by omega, by go_num, by rw [Hst.out]; push_cast; rfl⟩
          case measure => simp [intOf]; omega
        · obtain rfl : kk = 6 := by omega
          have hA : accB s.data.toList q 6 < 64 := Hacc.out 6
          have hcall := r3letter_any (accB s.data.toList q 6) wr hA
          generalize letterB (accB s.data.toList q 6) = x at hcall Hss
          generalize accB s.data.toList q 6 = a at hA hcall ⊢
          go_wp2_with fail
          refine hcall.mono ?_
          rintro e w' ⟨rfl, hw'⟩
          rw [hw']
          clear hw' hcall
          have hown2 := hown.alloc (.cells #[.int .u8 (x.toNat : Int)] 5)
          go_wp2_with (at_builtin; refine wpList_append_own _ rfl _ _ 34 rfl w.heap.size 5 i0 (.int .u8 0) 1 1 Tryd.underlying34 hi hz0 hz1 hz2 rfl (by decide) _ m _ rfl hown2 ⟨wr.heap.size, 0, none⟩ 1 1 [.int .u8 (x.toNat : Int)] rfl rfl ?n1 ?n2 ?n3 ?n4 ?n5 ?_)
          case n1 =>
            intro j u hj
            rw [Addr.add_lit]
            have hj0 : j = 0 := by
              rcases Nat.eq_zero_or_pos j with h | h
              · exact h
              · rw [List.getElem?_eq_none (by simp; omega)] at hj
                cases hj
            subst hj0
            simp at hj
            subst hj
            go_simp
          case n2 =>
            intro u hu
            simp at hu
            subst hu
            rfl
          case n3 => unfold maxLen; omega
          case n4 => omega
          case n5 => simp; omega
          intro v' w3 hown3 hgrow3 _
          have hb3 : Below w.heap.size w w3 := (hbr.alloc hbz _).grown hgrow3 (by simp; omega) fun k hk => (hown2.lt k hk).1
          go_wp2
          go_roundw
          case rel =>
            refine ⟨m + 1, _, by omega, ?_, rfl, ?_, hb3⟩
            · rw [Hq3.out]; push_cast; rfl
            · rw [Hss.out, Lib.byteCells_append]; exact hown3
          case measure => simp [intOf]; omega
    · obtain rfl : m = N := by omega
      have hge : ¬ ((6 * m : Nat) : Int) < 8 * (s.size : Int) := by omega
      have hown1 : wr.ownsRow w.heap.size 5 1 u3 m (Lib.byteCells (sixes s.data.toList m ++ List.replicate (m - m) 61)) := by rw [Nat.sub_self]; simpa using hown
      clear hown
      go_wp2
      go_loopw [3] (fun o wr => ∃ (j : Nat) (v : Value), m ≤ j ∧ j ≤ m + (4 - m % 4) % 4 ∧ o = v ∧ wr.ownsRow w.heap.size 5 1 v j (Lib.byteCells (sixes s.data.toList m ++ List.replicate (j - m) 61)) ∧ Below w.heap.size w wr) (fun o wr => m + 4 - (match o with | .slice _ n _ => n | _ => 0))
      case atStart => exact ⟨m, _, Nat.le_refl _, by omega, rfl, hown1, hbr⟩
      case round =>
        obtain ⟨j, v, hj1, hj2, hv, hown, hbr⟩ := hrel
        subst hv
        obtain ⟨ao, cap, rfl⟩ : ∃ ao cap, u3 = .slice ao j cap := by
          rcases hown.2 with ⟨hv, h0⟩ | ⟨g, cap, cur, hv, _⟩
          · subst h0
            exact ⟨_, _, hv⟩
          · exact ⟨_, _, hv⟩
        have hbz2 := hbr.size
        by_cases hz : j % 4 = 0
        · have hj : j = m + (4 - m % 4) % 4 := by omega
          have hcv := conv_own hown
          have Hfin : Hid ((⟨(sixes s.data.toList m ++ List.replicate (j - m) 61).toArray⟩ : ByteArray) = ⟨(encB s.data.toList).toArray⟩) := Lib.hid (by
            rw [Henc.out, hj, Nat.add_sub_cancel_left])
          clear hj
          go_wp2
          go_ret
          exact ⟨by rw [← Hfin.out]; rfl, hbr⟩
        · have hlt2 : j < m + (4 - m % 4) % 4 := by omega
          have hrep : List.replicate (j + 1 - m) (61 : UInt8) = List.replicate (j - m) 61 ++ [61] := by
            rw [show j + 1 - m = (j - m) + 1 by omega, List.replicate_succ']
          have Hrep := Lib.hid hrep
          clear hrep
          have hown2 := hown.alloc (.cells #[.int .u8 61] 5)
          go_wp2_with (at_builtin; refine wpList_append_own _ rfl _ _ 34 rfl w.heap.size 5 i0 (.int .u8 0) 1 1 Tryd.underlying34 hi hz0 hz1 hz2 rfl (by decide) _ j _ rfl hown2 ⟨wr.heap.size, 0, none⟩ 1 1 [.int .u8 61] rfl rfl ?o1 ?o2 ?o3 ?o4 ?o5 ?_)
          case o1 =>
            intro a u hj
            rw [Addr.add_lit]
            have hj0 : a = 0 := by
              rcases Nat.eq_zero_or_pos a with h | h
              · exact h
              · rw [List.getElem?_eq_none (by simp; omega)] at hj
                cases hj
            subst hj0
            simp at hj
            subst hj
            go_simp
          case o2 =>
            intro u hu
            simp at hu
            subst hu
            rfl
          case o3 => unfold maxLen; omega
          case o4 => omega
          case o5 => simp; omega
          intro v' w3 hown3 hgrow3 _
          have hb3 : Below w.heap.size w w3 := (hbr.alloc hbr.size _).grown hgrow3 (by simp; omega) fun k hk => (hown2.lt k hk).1
          obtain ⟨ao3, cap3, rfl⟩ : ∃ ao cap, v' = .slice ao (j + 1) cap := by
            rcases hown3.2 with ⟨hv, h0⟩ | ⟨g, cap, cur, hv, _⟩
            · omega
            · exact ⟨_, _, hv⟩
          go_wp2
          go_roundw
          case rel =>
            refine ⟨j + 1, _, by omega, by omega, rfl, ?_, hb3⟩
            rw [Hrep.out, ← List.append_assoc, Lib.byteCells_append]
            exact hown3
          case measure => simp; omega
end Go.Proofs.YtjkcjbbkplonkaaDoor
