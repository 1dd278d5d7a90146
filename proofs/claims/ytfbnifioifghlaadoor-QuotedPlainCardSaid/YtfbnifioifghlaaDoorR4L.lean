/-
  The document's answer of layer 4, written in Go: a text's lines, told by the plain function.
-/
import Derived.Test.YtfbnifioifghlaaDoorR4A
import Derived.Test.YtfbnifioifghlaaDoorStrL
import Derived.Maps.OwnSet
import Derived.Laws.AppendOwn
import Derived.Lib.Strings
namespace Go.Proofs.YtfbnifioifghlaaDoor
open Go.RowKit

theorem infoStr4 : (Tryd.prog.info? 9).map (fun i => (i.zero, i.size, i.bytes)) = some (some (.string ⟨#[]⟩), 1, 16) := by kernel_rfl
/-- What was read of a line by now stands ahead of what is left. -/
def glueQ (cur : List UInt8) : List (List UInt8) → List (List UInt8)
  | [] => [cur]
  | l :: ls => (cur ++ l) :: ls
theorem glue_nil {ls : List (List UInt8)} (h : ls ≠ []) : glueQ [] ls = ls := by
  cases ls with
  | nil => exact absurd rfl h
  | cons l ls => rfl
theorem glue_end (cur r : List UInt8) : glueQ cur (linesQ (13 :: 10 :: r)) = cur :: linesQ r := by
  rw [lines_end]
  show (cur ++ []) :: linesQ r = _
  rw [List.append_nil]
theorem glue_byte {c d : UInt8} (h : ¬ (c = 13 ∧ d = 10)) (cur r : List UInt8) : glueQ cur (linesQ (c :: d :: r)) = glueQ (cur ++ [c]) (linesQ (d :: r)) := by
  obtain ⟨l, ls, h1, h2⟩ := lines_cons c d r h
  rw [h1, h2]
  show (cur ++ c :: l) :: ls = (cur ++ [c] ++ l) :: ls
  simp
theorem lines_short {s : List UInt8} (h : s.length ≤ 1) : linesQ s = [s] := by
  match s, h with
  | [], _ => rfl
  | [c], _ => rfl
/-- A line as a text. -/
def textQ (l : List UInt8) : ByteArray := ⟨l.toArray⟩
theorem cut_text (s : ByteArray) (a b : Nat) : s.extract a b = textQ ((s.data.toList.drop a).take (b - a)) := ByteArray.ext (Array.ext' (by rw [Lib.extract_data]; rfl))

set_option maxRecDepth 100000 in
set_option maxHeartbeats 2000000 in
theorem r4lines_any (s : ByteArray) (w : World) (hs : s.size < 1000000) :
    Calls Tryd.prog 24 #[.string s] w fun e w' => ∃ v, e = .returned v ∧ w'.ownsRow w.heap.size 9 1 v (linesQ s.data.toList).length (((linesQ s.data.toList).map textQ).map .string) ∧ Below w.heap.size w w' := by
  obtain ⟨i0, hi, hz0, hz1, hz2⟩ := info_parts infoStr4
  have hown0 : w.ownsRow w.heap.size 9 1 (.slice none 0 0) ([] : List (List UInt8)).length ((([] : List (List UInt8)).map textQ).map .string) := World.ownsRow_nil _ _ _ _
  have Hl : Hid (s.data.toList.length = s.size) := Lib.hid rfl
  go_enter Tryd.func24, Tryd.ntmps24
  go_wp2
  go_loopw [3, 4, 5] (fun o fv iv wr => ∃ (f i : Nat) (ls : List (List UInt8)) (vo : Value), f ≤ i ∧ i ≤ s.size ∧ fv = .int .i64 f ∧ iv = .int .i64 i ∧ o = vo ∧ ls.length ≤ i ∧ wr.ownsRow w.heap.size 9 1 vo ls.length ((ls.map textQ).map .string) ∧ Below w.heap.size w wr ∧ linesQ s.data.toList = ls ++ glueQ ((s.data.toList.drop f).take (i - f)) (linesQ (s.data.toList.drop i))) (fun _ _ iv _ => s.size - (intOf iv).toNat)
  case atStart => exact ⟨0, 0, [], _, by omega, by omega, rfl, rfl, rfl, by simp, hown0, Below.refl _ _, by simp [glue_nil (lines_ne _)]⟩
  case round =>
    obtain ⟨f, i, ls, vo, hf, hi1, rfl, rfl, hvo, hll, hown, hbr, hst⟩ := hrel
    subst hvo
    have hbz := hbr.size
    by_cases hlt : i + 1 < s.size
    · have hdr : s.data.toList.drop i = s[i] :: s[i + 1] :: s.data.toList.drop (i + 2) := by
        rw [List.drop_eq_getElem_cons (by rw [Hl.out]; omega), List.drop_eq_getElem_cons (by rw [Hl.out]; omega)]
        rfl
      have htk : (s.data.toList.drop f).take (i - f) ++ [s[i]] = (s.data.toList.drop f).take (i + 1 - f) := by
        rw [show i + 1 - f = (i - f) + 1 by omega, List.take_add, List.drop_drop, show f + (i - f) = i by omega, hdr]
        rfl
      have hq2 : s.data.toList.drop (i + 1) = s[i + 1] :: s.data.toList.drop (i + 2) := by
        rw [List.drop_eq_getElem_cons (by rw [Hl.out]; omega)]
        rfl
      rw [hdr] at hst
      by_cases hce : s[i] = 13 ∧ s[i + 1] = 10
      · rw [hce.1, hce.2, glue_end] at hst
        have hn : linesQ s.data.toList = (ls ++ [(s.data.toList.drop f).take (i - f)]) ++ glueQ ((s.data.toList.drop (i + 2)).take (i + 2 - (i + 2))) (linesQ (s.data.toList.drop (i + 2))) := by
          rw [hst, Nat.sub_self, List.take_zero, glue_nil (lines_ne _), List.append_assoc]
          rfl
        have h13 : ((s[i].toNat : Int) == 13) = true := by rw [hce.1]; rfl
        have h10 : ((s[i + 1].toNat : Int) == 10) = true := by rw [hce.2]; rfl
        have hx : s.extract f i = textQ ((s.data.toList.drop f).take (i - f)) := cut_text s f i
        have Hn := Lib.hid hn
        have Hx := Lib.hid hx
        have hown2 := hown.alloc (.cells #[.string (s.extract f i)] 9)
        clear hst hdr htk hq2 hce hn hx
        go_wp2_with (at_builtin; refine wpList_append_own _ rfl _ _ 52 rfl w.heap.size 9 i0 (.string ⟨#[]⟩) 1 16 Tryd.underlying52 hi hz0 hz1 hz2 rfl (by decide) _ ls.length _ rfl hown2 ⟨wr.heap.size, 0, none⟩ 1 1 [.string (s.extract f i)] rfl rfl ?n1 ?n2 ?n3 ?n4 ?n5 ?_)
        case n1 =>
          intro j u hj
          rw [Addr.add_lit]
          have hj0 : j = 0 := by
            rcases Nat.eq_zero_or_pos j with h | h
            · exact h
            · rw [List.getElem?_eq_none (by simp; omega)] at hj
              cases hj
          subst hj0
          simp at hj
          subst hj
          go_simp
        case n2 =>
          intro u hu
          simp at hu
          subst hu
          rfl
        case n3 => unfold maxLen; omega
        case n4 => omega
        case n5 => simp; omega
        intro v' w3 hown3 hgrow3 _
        have hb3 : Below w.heap.size w w3 := (hbr.alloc hbz _).grown hgrow3 (by simp; omega) fun k hk => (hown2.lt k hk).1
        go_wp2
        go_roundw
        case rel =>
          refine ⟨i + 2, i + 2, ls ++ [(s.data.toList.drop f).take (i - f)], _, by omega, by omega, by go_num, by go_num, rfl, by simp; omega, ?_, hb3, Hn.out⟩
          rw [List.length_append, List.map_append, List.map_append]
          rw [Hx.out, ← List.map_map] at hown3
          exact hown3
        case measure => simp [intOf]; omega
      · rw [glue_byte hce, htk, ← hq2] at hst
        have Hn := Lib.hid hst
        clear hst hdr htk hq2
        by_cases h1 : s[i] = 13
        · have h13 : ((s[i].toNat : Int) == 13) = true := by rw [h1]; rfl
          have h10 : ((s[i + 1].toNat : Int) == 10) = false := by
            rw [beq_eq_false_iff_ne]
            intro e
            exact hce ⟨h1, UInt8.toNat_inj.1 (by have : (10 : UInt8).toNat = 10 := rfl; omega)⟩
          clear hce h1
          go_wp2
          go_roundw
          case rel => exact ⟨f, i + 1, ls, _, by omega, by omega, rfl, by go_num, rfl, by omega, hown, hbr, Hn.out⟩
          case measure => simp [intOf]; omega
        · have h13 : ((s[i].toNat : Int) == 13) = false := by
            rw [beq_eq_false_iff_ne]
            intro e
            exact h1 (UInt8.toNat_inj.1 (by have : (13 : UInt8).toNat = 13 := rfl; omega))
          clear hce h1
          go_wp2
          go_roundw
          case rel => exact ⟨f, i + 1, ls, _, by omega, by omega, rfl, by go_num, rfl, by omega, hown, hbr, Hn.out⟩
          case measure => simp [intOf]; omega
    · have hsh : linesQ (s.data.toList.drop i) = [s.data.toList.drop i] := lines_short (by rw [List.length_drop, Hl.out]; omega)
      have hfin : linesQ s.data.toList = ls ++ [s.data.toList.drop f] := by
        rw [hst, hsh]
        show ls ++ [(s.data.toList.drop f).take (i - f) ++ s.data.toList.drop i] = _
        have : s.data.toList.drop i = (s.data.toList.drop f).drop (i - f) := by rw [List.drop_drop, show f + (i - f) = i by omega]
        rw [this, List.take_append_drop]
      have hx : s.extract f s.size = textQ (s.data.toList.drop f) := by
        rw [cut_text, List.take_of_length_le (by rw [List.length_drop, Hl.out]; omega)]
      have Hfin := Lib.hid hfin
      have hown2 := hown.alloc (.cells #[.string (s.extract f s.size)] 9)
      have Hx := Lib.hid hx
      clear hst hsh hfin hx
      go_wp2_with (at_builtin; refine wpList_append_own _ rfl _ _ 52 rfl w.heap.size 9 i0 (.string ⟨#[]⟩) 1 16 Tryd.underlying52 hi hz0 hz1 hz2 rfl (by decide) _ ls.length _ rfl hown2 ⟨wr.heap.size, 0, none⟩ 1 1 [.string (s.extract f s.size)] rfl rfl ?n1 ?n2 ?n3 ?n4 ?n5 ?_)
      case n1 =>
        intro j u hj
        rw [Addr.add_lit]
        have hj0 : j = 0 := by
          rcases Nat.eq_zero_or_pos j with h | h
          · exact h
          · rw [List.getElem?_eq_none (by simp; omega)] at hj
            cases hj
        subst hj0
        simp at hj
        subst hj
        go_simp
      case n2 =>
        intro u hu
        simp at hu
        subst hu
        rfl
      case n3 => unfold maxLen; omega
      case n4 => omega
      case n5 => simp; omega
      intro v' w3 hown3 hgrow3 _
      have hb3 : Below w.heap.size w w3 := (hbr.alloc hbz _).grown hgrow3 (by simp; omega) fun k hk => (hown2.lt k hk).1
      go_wp2
      go_ret
      refine ⟨_, rfl, ?_, hb3⟩
      rw [Hfin.out, List.length_append, List.map_append, List.map_append]
      rw [Hx.out, ← List.map_map] at hown3
      exact hown3
end Go.Proofs.YtfbnifioifghlaaDoor
