/-
  The document's answer of layer 6, written in Go: the lines of bytes and what stands behind the last end, told by the plain function.
-/
import Derived.Test.YtflmbihdmmfcpaaFrC
import Derived.Test.YtflmbihdmmfcpaaGlue
import Derived.WalkKit
import Derived.WalkSpells
import Derived.WalkLawsBesides
import Derived.BigQuiet
import Derived.WalkSmall
import Derived.LoopIn
import Derived.Deep.LoopGhost
namespace Go.Proofs.Ytflmbihdmmfcpaa
open Go.RowKit

theorem infoRLine : (Try.prog.info? 34).map (fun i => (i.zero, i.size, i.bytes)) = some (some (.agg #[.string ⟨#[]⟩, .bool false]), 2, 24) := by kernel_rfl
theorem is13 {c : UInt8} (h : c = 13) : ((c.toNat : Int) != 13) = false := by rw [h]; rfl
theorem is10 {c : UInt8} (h : c = 10) : ((c.toNat : Int) != 10) = false := by rw [h]; rfl
theorem no13 {c : UInt8} (h : c ≠ 13) : ((c.toNat : Int) != 13) = true := by
  rw [bne_iff_ne]
  intro e
  exact h (UInt8.toNat_inj.1 (by have : (13 : UInt8).toNat = 13 := rfl; omega))
theorem no10 {c : UInt8} (h : c ≠ 10) : ((c.toNat : Int) != 10) = true := by
  rw [bne_iff_ne]
  intro e
  exact h (UInt8.toNat_inj.1 (by have : (10 : UInt8).toNat = 10 := rfl; omega))
/-- A text read byte by byte: what the next two bytes do. -/
theorem glue_two {s : List UInt8} {f i : Nat} (hf : f ≤ i) (a b : UInt8) (ha : s[i]? = some a) (hb : s[i + 1]? = some b) :
    (a = 13 ∧ b = 10 → glueQ ((s.drop f).take (i - f)) (linesQ (s.drop i)) = (s.drop f).take (i - f) :: linesQ (s.drop (i + 2))) ∧
    (¬ (a = 13 ∧ b = 10) → glueQ ((s.drop f).take (i - f)) (linesQ (s.drop i)) = glueQ ((s.drop f).take (i + 1 - f)) (linesQ (s.drop (i + 1)))) := by
  obtain ⟨h1, h2⟩ := List.getElem?_eq_some_iff.1 ha
  obtain ⟨h3, h4⟩ := List.getElem?_eq_some_iff.1 hb
  have hdr : s.drop i = a :: b :: s.drop (i + 2) := by
    rw [List.drop_eq_getElem_cons (by omega), List.drop_eq_getElem_cons (by omega), h2, h4]
  have hd1 : s.drop (i + 1) = b :: s.drop (i + 2) := by
    rw [List.drop_eq_getElem_cons (by omega), h4]
  have htk : (s.drop f).take (i - f) ++ [a] = (s.drop f).take (i + 1 - f) := by
    rw [show i + 1 - f = (i - f) + 1 by omega, List.take_add, List.drop_drop, show f + (i - f) = i by omega, hdr]
    rfl
  constructor
  · rintro ⟨rfl, rfl⟩
    rw [hdr, glue_end]
  · intro hne
    rw [hdr, hd1, glue_byte hne, htk]
theorem glue_start {s : List UInt8} (i : Nat) : glueQ ((s.drop i).take (i - i)) (linesQ (s.drop i)) = linesQ (s.drop i) := by
  rw [Nat.sub_self, List.take_zero, glue_nil (lines_ne _)]
theorem glue_last {s : List UInt8} {f i : Nat} (hf : f ≤ i) (hi : s.length ≤ i + 1) : glueQ ((s.drop f).take (i - f)) (linesQ (s.drop i)) = [s.drop f] := by
  rw [lines_short (by rw [List.length_drop]; omega)]
  show [(s.drop f).take (i - f) ++ s.drop i] = _
  have : s.drop i = (s.drop f).drop (i - f) := by rw [List.drop_drop, show f + (i - f) = i by omega]
  rw [this, List.take_append_drop]
theorem get_at (s : ByteArray) (i : Nat) (h : i < s.size) : s.data.toList[i]? = some s[i] := by
  rw [List.getElem?_eq_getElem (by show i < s.data.toList.length; exact h)]
  rfl

set_option maxRecDepth 100000 in
set_option maxHeartbeats 4000000 in
theorem r6cut_any (s : ByteArray) (ls : List (List UInt8)) (r : List UInt8) (w : World) (hs : s.size ≤ 1000000) (hl : linesQ s.data.toList = ls ++ [r]) :
    Calls Try.prog 14 #[.string s] w fun e w' => ∃ v, e = .returned (.tuple #[v, .string ⟨r.toArray⟩]) ∧ w'.ownsRow w.heap.size 34 2 v ls.length (linesCells ls) ∧ Below w.heap.size w w' := by
  obtain ⟨i0, hi, hz0, hz1, hz2⟩ := info_parts infoRLine
  have Hsl : Hid (s.data.toList.length = s.size) := Lib.hid rfl
  have HL := Lib.hid hl
  clear hl
  go_enter Try.func14, Try.ntmps14
  go_wp2
  go_loopw [4, 5, 6, 7] (fun o fv iv _ wr => ∃ (f i : Nat) (li : List (List UInt8)), f ≤ i ∧ i ≤ s.size ∧ fv = .int .i64 f ∧ iv = .int .i64 i ∧ li.length ≤ i ∧ wr.ownsRow w.heap.size 34 2 o li.length (linesCells li) ∧ Below w.heap.size w wr ∧ linesQ s.data.toList = li ++ glueQ ((s.data.toList.drop f).take (i - f)) (linesQ (s.data.toList.drop i))) (fun _ _ iv _ _ => s.size - (intOf iv).toNat)
  case atStart => exact ⟨0, 0, [], by omega, by omega, rfl, rfl, by simp, World.ownsRow_nil _ _ _ _, Below.refl _ _, by rw [glue_start]; rfl⟩
  case round =>
    obtain ⟨f, i, li, hf, hi1, rfl, rfl, hll, hown, hbr, hst⟩ := hrel
    have hbz := hbr.size
    by_cases hlt : i + 1 < s.size
    · obtain ⟨g1, g2⟩ := glue_two hf s[i] s[i + 1] (get_at s i (by omega)) (get_at s (i + 1) hlt)
      have k1 : (0 : Int) ≤ (i : Int) := by omega
      have k2 : (i : Int) + 1 < (s.size : Int) := by omega
      by_cases hce : s[i] = 13 ∧ s[i + 1] = 10
      · rw [g1 hce] at hst
        have hn : linesQ s.data.toList = (li ++ [(s.data.toList.drop f).take (i - f)]) ++ glueQ ((s.data.toList.drop (i + 2)).take (i + 2 - (i + 2))) (linesQ (s.data.toList.drop (i + 2))) := by
          rw [hst, glue_start, List.append_assoc]
          rfl
        have h13 := is13 hce.1
        have h10 := is10 hce.2
        have hx : s.extract f i = textQ ((s.data.toList.drop f).take (i - f)) := cut_text s f i
        obtain ⟨l, hle⟩ : ∃ l, (s.data.toList.drop f).take (i - f) = l := ⟨_, rfl⟩
        rw [hle] at hn hx
        have hxs : (s.extract f i).size = l.length := by rw [hx]; rfl
        have Hn := Lib.hid hn
        have k3 : (f : Int) ≤ (i : Int) := by omega
        have k4 : (0 : Int) ≤ (f : Int) := by omega
        have k5 : (i : Int) ≤ (s.size : Int) := by omega
        have hlen : l.length = i - f := by
          rw [← hle, List.length_take, List.length_drop, Hsl.out]
          omega
        have Hx := Lib.hid hx
        by_cases hlong : 998 < i - f
        · have hcells : linesCells li ++ [.string ⟨#[]⟩, .bool true] = linesCells (li ++ [l]) := by
            have h9 : longF l = true := by unfold longF; rw [hlen]; exact decide_eq_true hlong
            rw [lines_cells_snoc, lineCells, kept_long h9, h9]
            rfl
          have Hcells := Lib.hid hcells
          have hown2 := (hown.alloc (.cells #[.string ⟨#[]⟩, .bool true] 34)).alloc (.cells #[.string ⟨#[]⟩, .bool true] 34)
          clear hst g1 g2 hce hn hx hle hcells hlen hxs
          go_wp2_with (at_builtin; refine wpList_append_own _ rfl _ _ 29 rfl w.heap.size 34 i0 (.agg #[.string ⟨#[]⟩, .bool false]) 2 24 Try.underlying29 hi hz0 hz1 hz2 rfl (by decide) _ li.length _ rfl hown2 ⟨wr.heap.size + 1, 0, none⟩ 1 1 [.string ⟨#[]⟩, .bool true] rfl rfl ?n1 ?n2 ?n3 ?n4 ?n5 ?_)
          case n1 =>
            intro j u hj
            rw [Addr.add_lit]
            match j, hj with
            | 0, hj =>
              simp at hj
              subst hj
              go_simp
            | 1, hj =>
              simp at hj
              subst hj
              go_simp
            | j + 2, hj => simp at hj
          case n2 =>
            intro u hu
            simp at hu
            rcases hu with rfl | rfl <;> rfl
          case n3 => unfold maxLen; omega
          case n4 => omega
          case n5 => simp; omega
          intro v' w3 hown3 hgrow3 _
          have hb3 : Below w.heap.size w w3 := ((hbr.alloc hbz _).alloc (by simp; omega) _).grown hgrow3 (by simp; omega) fun k hk => (hown2.lt k hk).1
          rw [Hcells.out] at hown3
          go_wp2
          go_roundw
          case rel => exact ⟨i + 2, i + 2, li ++ [l], by omega, by omega, by go_num, by go_num, by simp; omega, by rw [List.length_append]; exact hown3, hb3, Hn.out⟩
          case measure => simp [intOf]; omega
        · have hcells : linesCells li ++ [.string (s.extract f i), .bool false] = linesCells (li ++ [l]) := by
            have h9 : longF l = false := by unfold longF; rw [hlen]; exact decide_eq_false hlong
            rw [lines_cells_snoc, lineCells, kept_short h9, h9, hx]
          have Hcells := Lib.hid hcells
          have hown2 := (hown.alloc (.cells #[.string (s.extract f i), .bool false] 34)).alloc (.cells #[.string (s.extract f i), .bool false] 34)
          clear hst g1 g2 hce hn hx hle hcells hlen hxs
          go_wp2_with (at_builtin; refine wpList_append_own _ rfl _ _ 29 rfl w.heap.size 34 i0 (.agg #[.string ⟨#[]⟩, .bool false]) 2 24 Try.underlying29 hi hz0 hz1 hz2 rfl (by decide) _ li.length _ rfl hown2 ⟨wr.heap.size + 1, 0, none⟩ 1 1 [.string (s.extract f i), .bool false] rfl rfl ?m1 ?m2 ?m3 ?m4 ?m5 ?_)
          case m1 =>
            intro j u hj
            rw [Addr.add_lit]
            match j, hj with
            | 0, hj =>
              simp at hj
              subst hj
              go_simp
            | 1, hj =>
              simp at hj
              subst hj
              go_simp
            | j + 2, hj => simp at hj
          case m2 =>
            intro u hu
            simp at hu
            rcases hu with rfl | rfl <;> rfl
          case m3 => unfold maxLen; omega
          case m4 => omega
          case m5 => simp; omega
          intro v' w3 hown3 hgrow3 _
          have hb3 : Below w.heap.size w w3 := ((hbr.alloc hbz _).alloc (by simp; omega) _).grown hgrow3 (by simp; omega) fun k hk => (hown2.lt k hk).1
          rw [Hcells.out] at hown3
          go_wp2
          go_roundw
          case rel => exact ⟨i + 2, i + 2, li ++ [l], by omega, by omega, by go_num, by go_num, by simp; omega, by rw [List.length_append]; exact hown3, hb3, Hn.out⟩
          case measure => simp [intOf]; omega
      · rw [g2 hce] at hst
        have Hn := Lib.hid hst
        clear hst g1 g2
        by_cases h1 : s[i] = 13
        · have h13 := is13 h1
          have h10 := no10 (fun e => hce ⟨h1, e⟩)
          clear hce h1
          go_wp2
          go_roundw
          case rel => exact ⟨f, i + 1, li, by omega, by omega, rfl, by go_num, by omega, hown, hbr, Hn.out⟩
          case measure => simp [intOf]; omega
        · have h13 := no13 h1
          clear hce h1
          go_wp2
          go_roundw
          case rel => exact ⟨f, i + 1, li, by omega, by omega, rfl, by go_num, by omega, hown, hbr, Hn.out⟩
          case measure => simp [intOf]; omega
    · rw [glue_last hf (by rw [Hsl.out]; omega), HL.out] at hst
      obtain ⟨rfl, rfl⟩ := parts_inj hst
      have hx : s.extract f s.size = textQ (s.data.toList.drop f) := by
        rw [cut_text, List.take_of_length_le (by rw [List.length_drop, Hsl.out]; omega)]
      have Hx := Lib.hid hx
      have k4 : (0 : Int) ≤ (f : Int) := by omega
      have k5 : (f : Int) ≤ (s.size : Int) := by omega
      clear hst hx
      go_wp2
      go_quiet (fail)
      go_wp2
      go_ret2
      exact ⟨_, by rw [Hx.out]; rfl, ownsRow_below4 hown (below_drewN (Below.refl _ _) _), below_drewN hbr _⟩
end Go.Proofs.Ytflmbihdmmfcpaa
