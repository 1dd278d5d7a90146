/-
  Texts of this proof, put together: R4E.
-/
import Derived.Test.YtidlpdiephlkhaaGreatDoorT02
import Derived.Test.YtidlpdiephlkhaaGreatDoorT03
import Derived.Test.YtidlpdiephlkhaaGreatDoorT01
import Derived.Lib.AppendStr
import Derived.Lib.UnsafeStr
import Derived.Deep.RegionHeld3
namespace Go.Proofs.YtidlpdiephlkhaaGreatDoor
open Go.RowKit

set_option maxRecDepth 100000 in
set_option maxHeartbeats 4000000 in
theorem r4enc_any (s : ByteArray) (w : World) (hs : s.size < 1000000) :
    Calls Tryz.prog 98 #[.string s] w fun e w' => e = .returned (.string ⟨(encQ s.data.toList).toArray⟩) ∧ Below w.heap.size w w' := by
  obtain ⟨i0, hi, hz0, hz1, hz2⟩ := info_parts infoB4
  have hsl : s.data.toList.length = s.size := rfl
  have Hbd := Lib.hid (fun j => upto_bound s.data.toList j)
  have Hall := Lib.hid (upto_all s.data.toList)
  have hcnt := lines_count s.data.toList
  have hpos : 0 < (linesQ s.data.toList).length := List.length_pos_iff.2 (lines_ne _)
  have hjl := join_lines s.data.toList
  obtain ⟨L, hL⟩ : ∃ L, linesQ s.data.toList = L := ⟨_, rfl⟩
  have hmem : ∀ (i : Nat) (h : i < L.length), L[i].length ≤ s.size := fun i h => by
    have := lines_mem_len L i h
    rw [show joinQ L = s.data.toList by rw [← hL, hjl], hsl] at this
    exact this
  have hlines := r4lines_any s w hs
  rw [hL] at hlines Hbd Hall hcnt hpos
  rw [hsl] at Hbd hcnt
  clear hL hjl hsl
  have Hmem := Lib.hid hmem
  clear hmem
  go_enter Tryz.func98, Tryz.ntmps98
  go_wp2_with fail
  refine hlines.mono ?_
  rintro e w2 ⟨v, rfl, hown, hw2⟩
  obtain ⟨A, c, rfl, hstr⟩ := Strs.of_own hown
  have hz := hw2.size
  have hlen := hstr.len
  rw [List.length_map] at hlen
  have hown0 : w2.ownsRow w2.heap.size 5 1 (.slice none 0 0) ([] : List UInt8).length (Lib.byteCells []) := World.ownsRow_nil _ _ _ _
  obtain ⟨b, off, rfl, hbB, hcl⟩ := hstr.at_ hpos
  clear hown hlines hpos hstr
  go_wp2
  go_loopw [4, 5, 6, 7, 8] (fun o iv _ _ _ wr => ∃ (i : Nat) (out : List UInt8) (vo : Value), i ≤ L.length ∧ iv = .int .i64 i ∧ o = vo ∧ out = uptoQ L i ∧ wr.ownsRow w2.heap.size 5 1 vo out.length (Lib.byteCells out) ∧ Below w2.heap.size w2 wr) (fun _ iv _ _ _ _ => L.length - (intOf iv).toNat)
  case atStart => exact ⟨0, [], _, by omega, rfl, rfl, rfl, hown0, Below.refl _ _⟩
  case round =>
    obtain ⟨i, out, vo, hi1, rfl, hvo, hout, hown, hbr⟩ := hrel
    subst hvo
    have hbz := hbr.size
    by_cases hlt : i < L.length
    · have Hsucc := Lib.hid (upto_succ hlt)
      obtain ⟨l, hl⟩ : ∃ l, L[i] = l := ⟨_, rfl⟩
      have hlm := Hmem.out i hlt
      rw [hl] at Hsucc hlm
      obtain ⟨X, hX⟩ : ∃ X, textQ l = X := ⟨_, rfl⟩
      have HXl : Hid (X.data.toList = l) := Lib.hid (by rw [← hX]; rfl)
      have hXs : X.size = l.length := by rw [← hX]; rfl
      have Hc : Hid (∀ W, Below w2.heap.size w2 W → W.cell? ⟨b, off + i, none⟩ = some (.string X)) := Lib.hid fun W hW => by
        rw [hW.cell (p := ⟨b, off + i, none⟩) hbB, hcl i hlt, List.getD_eq_getElem?_getD, List.getElem?_map, List.getElem?_eq_getElem hlt]
        simp [hl, hX]
      have hcx := Hc.out _ hbr
      clear hl hX
      have hol : out.length ≤ 6 * s.size := by rw [hout]; exact Hbd.out i
      by_cases h0 : i = 0
      · have hah : out = aheadQ L i := by
          rw [hout, h0]
          rfl
        rw [hah] at hown
        have hd0 : i + 5 ≤ 5 := by omega
        clear hah hout hol h0
        go_wp2
        have hb0 : ¬ 0 < i := by omega
        simp only [hb0, decide_false]
        clear hd0 hb0
        go_loopw [4, 6, 7, 8] (fun o nv kv _ wr => ∃ (k n : Nat) (acc : List UInt8) (vo : Value), k ≤ l.length ∧ n ≤ 75 ∧ kv = .int .i64 k ∧ nv = .int .i64 n ∧ o = vo ∧ wr.ownsRow w2.heap.size 5 1 vo acc.length (Lib.byteCells acc) ∧ Below w2.heap.size w2 wr ∧ uptoQ L (i + 1) = acc ++ tellQ n (l.drop k)) (fun _ _ kv _ _ => l.length - (intOf kv).toNat)
        case atStart => exact ⟨0, 0, aheadQ L i, _, by omega, by omega, rfl, rfl, rfl, hown, hbr, Hsucc.out⟩
        case round =>
          obtain ⟨k, n, acc, vo, hk, hn75, rfl, rfl, hvo, hown, hbr, hst⟩ := hrel
          subst hvo
          have hbz := hbr.size
          have hcx := Hc.out _ hbr
          have hal : acc.length ≤ 6 * s.size := by
            have h1 := Hbd.out (i + 1)
            rw [hst, List.length_append] at h1
            omega
          have hr0 : Hid (wr.drew.ownsRow w2.heap.size 5 1 u4 acc.length (Lib.byteCells acc)) := Lib.hid hown
          by_cases hkl : k < l.length
          · have hXk : k < X.size := by omega
            have hdr : l.drop k = X[k] :: l.drop (k + 1) := by
              rw [List.drop_eq_getElem_cons hkl]
              congr 1
              have e : X.data.toList[k]'(by rw [HXl.out]; exact hkl) = l[k] := by simp only [HXl.out]
              rw [← e]
              rfl
            obtain ⟨ch, hch⟩ : ∃ ch, X[k] = ch := ⟨_, rfl⟩
            rw [hch] at hdr
            obtain ⟨last, hla⟩ : ∃ last, decide (l.drop (k + 1) = []) = last := ⟨_, rfl⟩
            have hlast : ((k : Int) == (X.size : Int) - 1) = last := by
              rw [← hla, Bool.eq_iff_iff, beq_iff_eq, decide_eq_true_eq, List.drop_eq_nil_iff]
              omega
            rw [hdr, tellQ, hla] at hst
            obtain ⟨x, hx⟩ : ∃ x : ByteArray, x = ⟨(signB ch last).toArray⟩ := ⟨_, rfl⟩
            have hxs : x.size = (signB ch last).length := by rw [hx]; rfl
            have hxl : x.data.toList = signB ch last := by rw [hx]
            have hx13 := sign_len ch last
            have hsg : Hid (∀ W, (W.cell? ⟨b, off + i, none⟩ = some (.string X) ∧ Below w2.heap.size w2 W ∧ W.ownsRow w2.heap.size 5 1 u4 acc.length (Lib.byteCells acc)) → Calls Tryz.prog 130 #[.int .u8 (ch.toNat : Int), .bool last] W fun e W' => e = .returned (.string x) ∧ W'.cell? ⟨b, off + i, none⟩ = some (.string X) ∧ Below w2.heap.size w2 W' ∧ W'.ownsRow w2.heap.size 5 1 u4 acc.length (Lib.byteCells acc)) := Lib.hid fun W ⟨_, h2, h3⟩ => by
              rw [hx]
              refine (r4sign_any ch last W).mono ?_
              rintro e W' ⟨he, hb⟩
              have h4 := h2.trans (hb.mono h2.size)
              exact ⟨he, Hc.out _ h4, h4, ownsRow_below4 h3 hb⟩
            have hbd : Hid (Below w2.heap.size w2 wr.drew) := Lib.hid (below_drewN hbr 1)
            rw [← hxs, ← hxl] at hst
            rw [← hxs] at hx13
            have Hst := Lib.hid hst
            have f1 : (0 : Int) ≤ (k : Int) := by omega
            have f2 : (k : Int) < (X.size : Int) := by omega
            have f3 : IntKind.i64.wrap ((X.size : Int) - 1) = (X.size : Int) - 1 := by
              have h := IntWalk.wrap64_in ((X.size : Int) - 1) (by omega)
              unfold wrap64 at h
              rw [IntKind.wrap_i64]
              exact h
            have f4 : (k : Int) ≤ (X.size : Int) := by omega
            have f5 : (0 : Int) ≤ (i : Int) := by omega
            have f6 : (i : Int) < (L.length : Int) := by omega
            clear hst hdr hla hx hxs hxl hown hXs
            go_wp2
            go_region_held3 (fun W => W.cell? ⟨b, off + i, none⟩ = some (.string X) ∧ Below w2.heap.size w2 W ∧ W.ownsRow w2.heap.size 5 1 u4 acc.length (Lib.byteCells acc))
              (first | exact ⟨by assumption, hbd.out, hr0.out⟩ | exact ⟨by assumption, by assumption, by assumption⟩ | assumption | (trace_state; fail))
              (first | (go_at_call 130; refine (hsg.out _ ?_).mono ?_; assumption; rintro e w5 ⟨rfl, hc5, hb5, hr5⟩))
            rename_i hH
            clear hH hsg hbd hr0 hcx
            have hz5 := hb5.size
            have hxb : Lib.strCells x = Lib.byteCells x.data.toList := rfl
            by_cases h75 : n + x.size > 75
            · have hn : uptoQ L (i + 1) = (acc ++ [61, 13, 10] ++ x.data.toList) ++ tellQ x.size (l.drop (k + 1)) := by
                rw [Hst.out, if_pos h75]
                simp
              have Hn := Lib.hid hn
              have hr6 := hr5.alloc (.cells #[.int .u8 61, .int .u8 13, .int .u8 10] 5)
              have g1 : (75 : Int) < (n : Int) + (x.size : Int) := by omega
              clear hn
              go_wp2_with (at_builtin; refine wpList_append_own _ rfl _ _ 67 rfl w2.heap.size 5 i0 (.int .u8 0) 1 1 Tryz.underlying67 hi hz0 hz1 hz2 rfl (by decide) _ acc.length _ rfl hr6 ⟨w5.heap.size, 0, none⟩ 3 3 [.int .u8 61, .int .u8 13, .int .u8 10] rfl rfl ?ax1 ?bx1 ?cx1 ?dx1 ?ex1 ?_)
              case ax1 =>
                intro j u hj
                rw [Addr.add_lit]
                match j, hj with
                | 0, hj =>
                  simp at hj
                  subst hj
                  go_simp
                | 1, hj =>
                  simp at hj
                  subst hj
                  go_simp
                | 2, hj =>
                  simp at hj
                  subst hj
                  go_simp
                | j + 3, hj => simp at hj
              case bx1 =>
                intro u hu
                simp at hu
                rcases hu with rfl | rfl | rfl <;> rfl
              case cx1 => unfold maxLen; omega
              case dx1 => omega
              case ex1 => simp; omega
              intro v6 w6 hown6 hgrow6 _
              have hb6 : Below w2.heap.size w2 w6 := (hb5.alloc hz5 _).grown hgrow6 (by simp; omega) fun k hk => (hr6.lt k hk).1
              have hz6 := hb6.size
              clear hgrow6 hr6
              go_wp2_with (at_builtin; refine Lib.wpList_append_own_string _ rfl _ _ 67 9 rfl w2.heap.size 5 i0 Tryz.underlying67 Tryz.underlying9 hi hz0 hz1 hz2 _ _ _ rfl hown6 x rfl ?sx2 ?tx2 ?ux2 ?_)
              case sx2 => unfold maxLen; omega
              case tx2 => omega
              case ux2 => omega
              intro v7 w7 hown7 hgrow7 _
              have hb7 : Below w2.heap.size w2 w7 := hb6.grown hgrow7 (by omega) fun k hk => (hown6.lt k hk).1
              have hrow7 : w7.ownsRow w2.heap.size 5 1 v7 (acc ++ [61, 13, 10] ++ x.data.toList).length (Lib.byteCells (acc ++ [61, 13, 10] ++ x.data.toList)) := by
                have e1 : Lib.byteCells (acc ++ [61, 13, 10] ++ x.data.toList) = Lib.byteCells acc ++ (.int .u8 61 :: .int .u8 13 :: .int .u8 10 :: Lib.byteCells x.data.toList) := by
                  rw [Lib.byteCells_append, Lib.byteCells_append, List.append_assoc]
                  rfl
                have e2 : (acc ++ [61, 13, 10] ++ x.data.toList).length = acc.length + 3 + x.size := by
                  rw [List.length_append, List.length_append]
                  rfl
                rw [e1, e2]
                exact hown7
              clear hown6 hown7 hgrow7
              go_wp2
              go_roundw
              case rel => exact ⟨k + 1, x.size, _, _, by omega, by omega, by go_num, rfl, rfl, hrow7, hb7, Hn.out⟩
              case measure => simp [intOf]; omega
            · have hn : uptoQ L (i + 1) = (acc ++ x.data.toList) ++ tellQ (n + x.size) (l.drop (k + 1)) := by
                rw [Hst.out, if_neg h75, List.append_assoc]
              have Hn := Lib.hid hn
              have g1 : ¬ (75 : Int) < (n : Int) + (x.size : Int) := by omega
              clear hn
              go_wp2_with (at_builtin; refine Lib.wpList_append_own_string _ rfl _ _ 67 9 rfl w2.heap.size 5 i0 Tryz.underlying67 Tryz.underlying9 hi hz0 hz1 hz2 _ _ _ rfl hr5 x rfl ?sx3 ?tx3 ?ux3 ?_)
              case sx3 => unfold maxLen; omega
              case tx3 => omega
              intro v7 w7 hown7 hgrow7 _
              have hb7 : Below w2.heap.size w2 w7 := hb5.grown hgrow7 (by omega) fun k hk => (hr5.lt k hk).1
              have hrow7 : w7.ownsRow w2.heap.size 5 1 v7 (acc ++ x.data.toList).length (Lib.byteCells (acc ++ x.data.toList)) := by
                rw [Lib.byteCells_append, List.length_append]
                exact hown7
              clear hown7 hgrow7
              go_wp2
              go_roundw
              case rel => exact ⟨k + 1, n + x.size, _, _, by omega, by omega, by go_num, by push_cast; rfl, rfl, hrow7, hb7, Hn.out⟩
              case measure => simp [intOf]; omega
          · have hnil : l.drop k = [] := List.drop_eq_nil_of_le (by omega)
            rw [hnil, tellQ, List.append_nil] at hst
            clear hnil
            go_wp2
            go_roundw
            case rel => exact ⟨i + 1, acc, _, by omega, by go_num, rfl, hst.symm, hown, hbr⟩
            case measure => simp [intOf]; omega
      · have hah : out ++ [13, 10] = aheadQ L i := by
          unfold aheadQ
          rw [if_neg h0, hout]
        have hown2 := hown.alloc (.cells #[.int .u8 13, .int .u8 10] 5)
        have hd0 : 5 < i + 5 := by omega
        clear hout h0
        go_wp2_with (at_builtin; refine wpList_append_own _ rfl _ _ 67 rfl w2.heap.size 5 i0 (.int .u8 0) 1 1 Tryz.underlying67 hi hz0 hz1 hz2 rfl (by decide) _ out.length _ rfl hown2 ⟨wr.heap.size, 0, none⟩ 2 2 [.int .u8 13, .int .u8 10] rfl rfl ?a0 ?b0 ?c0 ?d0 ?e0 ?_)
        case a0 =>
          intro j u hj
          rw [Addr.add_lit]
          match j, hj with
          | 0, hj =>
            simp at hj
            subst hj
            go_simp
          | 1, hj =>
            simp at hj
            subst hj
            go_simp
          | j + 2, hj => simp at hj
        case b0 =>
          intro u hu
          simp at hu
          rcases hu with rfl | rfl <;> rfl
        case c0 => unfold maxLen; omega
        case d0 => omega
        case e0 => simp; omega
        intro v' w3 hown3 hgrow3 _
        have hb3 : Below w2.heap.size w2 w3 := (hbr.alloc hbz _).grown hgrow3 (by simp; omega) fun k hk => (hown2.lt k hk).1
        have hrow : w3.ownsRow w2.heap.size 5 1 v' (aheadQ L i).length (Lib.byteCells (aheadQ L i)) := by
          rw [← hah, List.length_append, Lib.byteCells_append]
          exact hown3
        clear hah hown3 hgrow3 hown2 hol hcx
        have hcx := Hc.out _ hb3
        go_wp2
        clear hd0
        go_loopw [4, 6, 7, 8] (fun o nv kv _ wr => ∃ (k n : Nat) (acc : List UInt8) (vo : Value), k ≤ l.length ∧ n ≤ 75 ∧ kv = .int .i64 k ∧ nv = .int .i64 n ∧ o = vo ∧ wr.ownsRow w2.heap.size 5 1 vo acc.length (Lib.byteCells acc) ∧ Below w2.heap.size w2 wr ∧ uptoQ L (i + 1) = acc ++ tellQ n (l.drop k)) (fun _ _ kv _ _ => l.length - (intOf kv).toNat)
        case atStart => exact ⟨0, 0, aheadQ L i, _, by omega, by omega, rfl, rfl, rfl, hrow, hb3, Hsucc.out⟩
        case round =>
          obtain ⟨k, n, acc, vo, hk, hn75, rfl, rfl, hvo, hown, hbr, hst⟩ := hrel
          subst hvo
          have hbz := hbr.size
          have hcx := Hc.out _ hbr
          have hal : acc.length ≤ 6 * s.size := by
            have h1 := Hbd.out (i + 1)
            rw [hst, List.length_append] at h1
            omega
          have hr0 : Hid (wr.drew.ownsRow w2.heap.size 5 1 u4 acc.length (Lib.byteCells acc)) := Lib.hid hown
          by_cases hkl : k < l.length
          · have hXk : k < X.size := by omega
            have hdr : l.drop k = X[k] :: l.drop (k + 1) := by
              rw [List.drop_eq_getElem_cons hkl]
              congr 1
              have e : X.data.toList[k]'(by rw [HXl.out]; exact hkl) = l[k] := by simp only [HXl.out]
              rw [← e]
              rfl
            obtain ⟨ch, hch⟩ : ∃ ch, X[k] = ch := ⟨_, rfl⟩
            rw [hch] at hdr
            obtain ⟨last, hla⟩ : ∃ last, decide (l.drop (k + 1) = []) = last := ⟨_, rfl⟩
            have hlast : ((k : Int) == (X.size : Int) - 1) = last := by
              rw [← hla, Bool.eq_iff_iff, beq_iff_eq, decide_eq_true_eq, List.drop_eq_nil_iff]
              omega
            rw [hdr, tellQ, hla] at hst
            obtain ⟨x, hx⟩ : ∃ x : ByteArray, x = ⟨(signB ch last).toArray⟩ := ⟨_, rfl⟩
            have hxs : x.size = (signB ch last).length := by rw [hx]; rfl
            have hxl : x.data.toList = signB ch last := by rw [hx]
            have hx13 := sign_len ch last
            have hsg : Hid (∀ W, (W.cell? ⟨b, off + i, none⟩ = some (.string X) ∧ Below w2.heap.size w2 W ∧ W.ownsRow w2.heap.size 5 1 u4 acc.length (Lib.byteCells acc)) → Calls Tryz.prog 130 #[.int .u8 (ch.toNat : Int), .bool last] W fun e W' => e = .returned (.string x) ∧ W'.cell? ⟨b, off + i, none⟩ = some (.string X) ∧ Below w2.heap.size w2 W' ∧ W'.ownsRow w2.heap.size 5 1 u4 acc.length (Lib.byteCells acc)) := Lib.hid fun W ⟨_, h2, h3⟩ => by
              rw [hx]
              refine (r4sign_any ch last W).mono ?_
              rintro e W' ⟨he, hb⟩
              have h4 := h2.trans (hb.mono h2.size)
              exact ⟨he, Hc.out _ h4, h4, ownsRow_below4 h3 hb⟩
            have hbd : Hid (Below w2.heap.size w2 wr.drew) := Lib.hid (below_drewN hbr 1)
            rw [← hxs, ← hxl] at hst
            rw [← hxs] at hx13
            have Hst := Lib.hid hst
            have f1 : (0 : Int) ≤ (k : Int) := by omega
            have f2 : (k : Int) < (X.size : Int) := by omega
            have f3 : IntKind.i64.wrap ((X.size : Int) - 1) = (X.size : Int) - 1 := by
              have h := IntWalk.wrap64_in ((X.size : Int) - 1) (by omega)
              unfold wrap64 at h
              rw [IntKind.wrap_i64]
              exact h
            have f4 : (k : Int) ≤ (X.size : Int) := by omega
            have f5 : (0 : Int) ≤ (i : Int) := by omega
            have f6 : (i : Int) < (L.length : Int) := by omega
            clear hst hdr hla hx hxs hxl hown hXs
            go_wp2
            go_region_held3 (fun W => W.cell? ⟨b, off + i, none⟩ = some (.string X) ∧ Below w2.heap.size w2 W ∧ W.ownsRow w2.heap.size 5 1 u4 acc.length (Lib.byteCells acc))
              (first | exact ⟨by assumption, hbd.out, hr0.out⟩ | exact ⟨by assumption, by assumption, by assumption⟩ | assumption | (trace_state; fail))
              (first | (go_at_call 130; refine (hsg.out _ ?_).mono ?_; assumption; rintro e w5 ⟨rfl, hc5, hb5, hr5⟩))
            rename_i hH
            clear hH hsg hbd hr0 hcx
            have hz5 := hb5.size
            have hxb : Lib.strCells x = Lib.byteCells x.data.toList := rfl
            by_cases h75 : n + x.size > 75
            · have hn : uptoQ L (i + 1) = (acc ++ [61, 13, 10] ++ x.data.toList) ++ tellQ x.size (l.drop (k + 1)) := by
                rw [Hst.out, if_pos h75]
                simp
              have Hn := Lib.hid hn
              have hr6 := hr5.alloc (.cells #[.int .u8 61, .int .u8 13, .int .u8 10] 5)
              have g1 : (75 : Int) < (n : Int) + (x.size : Int) := by omega
              clear hn
              go_wp2_with (at_builtin; refine wpList_append_own _ rfl _ _ 67 rfl w2.heap.size 5 i0 (.int .u8 0) 1 1 Tryz.underlying67 hi hz0 hz1 hz2 rfl (by decide) _ acc.length _ rfl hr6 ⟨w5.heap.size, 0, none⟩ 3 3 [.int .u8 61, .int .u8 13, .int .u8 10] rfl rfl ?ay1 ?by1 ?cy1 ?dy1 ?ey1 ?_)
              case ay1 =>
                intro j u hj
                rw [Addr.add_lit]
                match j, hj with
                | 0, hj =>
                  simp at hj
                  subst hj
                  go_simp
                | 1, hj =>
                  simp at hj
                  subst hj
                  go_simp
                | 2, hj =>
                  simp at hj
                  subst hj
                  go_simp
                | j + 3, hj => simp at hj
              case by1 =>
                intro u hu
                simp at hu
                rcases hu with rfl | rfl | rfl <;> rfl
              case cy1 => unfold maxLen; omega
              case dy1 => omega
              case ey1 => simp; omega
              intro v6 w6 hown6 hgrow6 _
              have hb6 : Below w2.heap.size w2 w6 := (hb5.alloc hz5 _).grown hgrow6 (by simp; omega) fun k hk => (hr6.lt k hk).1
              have hz6 := hb6.size
              clear hgrow6 hr6
              go_wp2_with (at_builtin; refine Lib.wpList_append_own_string _ rfl _ _ 67 9 rfl w2.heap.size 5 i0 Tryz.underlying67 Tryz.underlying9 hi hz0 hz1 hz2 _ _ _ rfl hown6 x rfl ?sy2 ?ty2 ?uy2 ?_)
              case sy2 => unfold maxLen; omega
              case ty2 => omega
              case uy2 => omega
              intro v7 w7 hown7 hgrow7 _
              have hb7 : Below w2.heap.size w2 w7 := hb6.grown hgrow7 (by omega) fun k hk => (hown6.lt k hk).1
              have hrow7 : w7.ownsRow w2.heap.size 5 1 v7 (acc ++ [61, 13, 10] ++ x.data.toList).length (Lib.byteCells (acc ++ [61, 13, 10] ++ x.data.toList)) := by
                have e1 : Lib.byteCells (acc ++ [61, 13, 10] ++ x.data.toList) = Lib.byteCells acc ++ (.int .u8 61 :: .int .u8 13 :: .int .u8 10 :: Lib.byteCells x.data.toList) := by
                  rw [Lib.byteCells_append, Lib.byteCells_append, List.append_assoc]
                  rfl
                have e2 : (acc ++ [61, 13, 10] ++ x.data.toList).length = acc.length + 3 + x.size := by
                  rw [List.length_append, List.length_append]
                  rfl
                rw [e1, e2]
                exact hown7
              clear hown6 hown7 hgrow7
              go_wp2
              go_roundw
              case rel => exact ⟨k + 1, x.size, _, _, by omega, by omega, by go_num, rfl, rfl, hrow7, hb7, Hn.out⟩
              case measure => simp [intOf]; omega
            · have hn : uptoQ L (i + 1) = (acc ++ x.data.toList) ++ tellQ (n + x.size) (l.drop (k + 1)) := by
                rw [Hst.out, if_neg h75, List.append_assoc]
              have Hn := Lib.hid hn
              have g1 : ¬ (75 : Int) < (n : Int) + (x.size : Int) := by omega
              clear hn
              go_wp2_with (at_builtin; refine Lib.wpList_append_own_string _ rfl _ _ 67 9 rfl w2.heap.size 5 i0 Tryz.underlying67 Tryz.underlying9 hi hz0 hz1 hz2 _ _ _ rfl hr5 x rfl ?sy3 ?ty3 ?uy3 ?_)
              case sy3 => unfold maxLen; omega
              case ty3 => omega
              intro v7 w7 hown7 hgrow7 _
              have hb7 : Below w2.heap.size w2 w7 := hb5.grown hgrow7 (by omega) fun k hk => (hr5.lt k hk).1
              have hrow7 : w7.ownsRow w2.heap.size 5 1 v7 (acc ++ x.data.toList).length (Lib.byteCells (acc ++ x.data.toList)) := by
                rw [Lib.byteCells_append, List.length_append]
                exact hown7
              clear hown7 hgrow7
              go_wp2
              go_roundw
              case rel => exact ⟨k + 1, n + x.size, _, _, by omega, by omega, by go_num, by push_cast; rfl, rfl, hrow7, hb7, Hn.out⟩
              case measure => simp [intOf]; omega
          · have hnil : l.drop k = [] := List.drop_eq_nil_of_le (by omega)
            rw [hnil, tellQ, List.append_nil] at hst
            clear hnil
            go_wp2
            go_roundw
            case rel => exact ⟨i + 1, acc, _, by omega, by go_num, rfl, hst.symm, hown, hbr⟩
            case measure => simp [intOf]; omega
    · obtain rfl : i = L.length := by omega
      have hfin : out = encQ s.data.toList := by rw [hout, Hall.out]
      have hcv := conv_own4 hown
      rw [hfin] at hcv
      clear hout hfin
      go_wp2
      go_ret
      exact ⟨rfl, hw2.trans (hbr.mono hz)⟩
end Go.Proofs.YtidlpdiephlkhaaGreatDoor
