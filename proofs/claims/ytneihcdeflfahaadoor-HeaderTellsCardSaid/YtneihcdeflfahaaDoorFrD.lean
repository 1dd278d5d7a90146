/-
  strings.Cut at an end, strings.Clone, and what frame.Lines comes to: told by the plain function.
-/
import Derived.Test.YtneihcdeflfahaaDoorF6F
import Derived.Test.YtneihcdeflfahaaDoorQ5P
import Derived.Test.YtneihcdeflfahaaDoorConv
import Derived.Test.YtneihcdeflfahaaDoorStrL
import Derived.Test.YtneihcdeflfahaaDoorShelf
import Derived.Below
import Derived.BigQuiet
import Derived.WalkSmall
import Derived.Maps.OwnSet
import Derived.LoopIn
import Derived.Deep.LoopGhost
namespace Go.Proofs.YtneihcdeflfahaaDoor
open Go.RowKit

theorem bytes_eqF {a b : ByteArray} (h : a.data.toList ≠ b.data.toList) : (a.toList == b.toList) = false := by
  rw [beq_eq_false_iff_ne]
  rw [Lib.toList_data, Lib.toList_data]
  exact h
theorem bytes_neF {a b : ByteArray} (h : a.data.toList ≠ b.data.toList) : (a.toList != b.toList) = true := by
  rw [bne, bytes_eqF h]
  rfl
theorem cut_ways (s : ByteArray) : (linesQ s.data.toList = [s.data.toList] ∧ Lib.cut s.data.toList [13, 10] = (s.data.toList, [], false)) ∨
    ∃ X Y : ByteArray, Lib.cut s.data.toList [13, 10] = (X.data.toList, Y.data.toList, true) ∧ linesQ s.data.toList = X.data.toList :: linesQ Y.data.toList ∧ X.size + Y.size + 2 = s.size := by
  have hl : s.data.toList.length = s.size := rfl
  rcases lines_search s.data.toList with ⟨h1, h2⟩ | ⟨i, h1, h2, h3⟩
  · refine .inl ⟨h2, ?_⟩
    unfold Lib.cut
    rw [h1, if_neg (by decide)]
  · refine .inr ⟨⟨(s.data.toList.take i).toArray⟩, ⟨(s.data.toList.drop (i + 2)).toArray⟩, ?_, ?_, ?_⟩
    · unfold Lib.cut
      rw [h1, if_pos (by omega)]
      rfl
    · simpa using h3
    · show (s.data.toList.take i).length + (s.data.toList.drop (i + 2)).length + 2 = s.size
      rw [List.length_take, List.length_drop, hl]
      omega
theorem cut_any (s X Y : ByteArray) (b : Bool) (m : Int) (w : World) (hs : s.size ≤ 100000000) (hm : w.cell? ⟨0, 0, none⟩ = some (.int .i64 m)) (h : Lib.cut s.data.toList [13, 10] = (X.data.toList, Y.data.toList, b)) :
    Calls Tryd.prog 40 #[.string s, .string ⟨#[13, 10]⟩] w fun e w' => e = .returned (.tuple #[.string X, .string Y, .bool b]) ∧ Below w.heap.size w w' := by
  refine (Tryd.strings_Cut s ⟨#[13, 10]⟩ m w (by omega) hm).mono ?_
  rintro e w' ⟨he, n, rfl⟩
  rw [show (⟨#[13, 10]⟩ : ByteArray).data.toList = [13, 10] from rfl, h] at he
  exact ⟨he, below_drewN (Below.refl _ _) n⟩
set_option maxRecDepth 100000 in
theorem clone_any (s : ByteArray) (w : World) (hs : s.size ≤ 100000000) : Calls Tryd.prog 29 #[.string s] w fun e w' => e = .returned (.string s) ∧ Below w.heap.size w w' := by
  have hc := Tryd.stringslite_Clone s w (by omega)
  go_enter Tryd.func29, Tryd.ntmps29
  go_wp2_with (go_at_call 44; refine hc.mono ?_; rintro e w' ⟨rfl, hw⟩)
  go_ret
  exact ⟨rfl, hw⟩
theorem bound_abide {m : Int} {w w' : World} (hm : w.cell? ⟨0, 0, none⟩ = some (.int .i64 m)) (hb : Below w.heap.size w w') : w'.cell? ⟨0, 0, none⟩ = some (.int .i64 m) := by
  have hlt : 0 < w.heap.size := by
    rcases Nat.lt_or_ge 0 w.heap.size with h | h
    · exact h
    · rw [World.cell?, Array.getElem?_eq_none h] at hm
      simp at hm
  exact (hb.cell (p := ⟨0, 0, none⟩) hlt).trans hm

/-- A text's lines and the error, by what waits behind them. -/
def goodF (ls : List (List UInt8)) (r : List UInt8) : List (List UInt8) := if r = [] then ls else []
def codeF (r : List UInt8) : Int := if r = [] then 0 else 2
theorem infoStr6 : (Tryd.prog.info? 9).map (fun i => (i.zero, i.size, i.bytes)) = some (some (.string ⟨#[]⟩), 1, 16) := by kernel_rfl
/-- Lines as texts. -/
def textsF (ls : List (List UInt8)) : List ByteArray := ls.map textQ
theorem texts_snoc (ls : List (List UInt8)) (l : List UInt8) : textsF (ls ++ [l]) = textsF ls ++ [textQ l] := by simp [textsF]
theorem texts_len (ls : List (List UInt8)) : (textsF ls).length = ls.length := by simp [textsF]
theorem texts_get (ls : List (List UInt8)) (i : Nat) (h : i < ls.length) : (textsF ls).getD i ByteArray.empty = textQ ls[i] := by simp [textsF, List.getD, h]
theorem text_data (s : ByteArray) : textQ s.data.toList = s := rfl

set_option maxRecDepth 100000 in
set_option maxHeartbeats 2000000 in
theorem flines_any (s : ByteArray) (m : Int) (ls : List (List UInt8)) (r : List UInt8) (w : World) (hs : s.size ≤ 1000000) (hm : w.cell? ⟨0, 0, none⟩ = some (.int .i64 m)) (hl : linesQ s.data.toList = ls ++ [r]) :
    Calls Tryd.prog 27 #[.string s] w fun e w' => ∃ v, e = .returned (.tuple #[v, .int .i64 (codeF r)]) ∧ w'.ownsRow w.heap.size 9 1 v (goodF ls r).length ((textsF (goodF ls r)).map .string) ∧ Below w.heap.size w w' := by
  obtain ⟨i0, hi, hz0, hz1, hz2⟩ := info_parts infoStr6
  have HL := Lib.hid hl
  clear hl
  go_enter Tryd.func27, Tryd.ntmps27
  go_wp2
  go_loopw [0, 4, 5, 6, 7] (fun sv o _ _ _ wr => ∃ (x : ByteArray) (li : List (List UInt8)), sv = .string x ∧ x.size ≤ s.size ∧ li.length + x.size ≤ s.size ∧ linesQ s.data.toList = li ++ linesQ x.data.toList ∧ wr.ownsRow w.heap.size 9 1 o li.length ((textsF li).map .string) ∧ Below w.heap.size w wr) (fun sv _ _ _ _ _ => match sv with | .string x => x.size | _ => 0)
  case atStart => exact ⟨s, [], rfl, Nat.le_refl _, by simp, rfl, World.ownsRow_nil _ _ _ _, Below.refl _ _⟩
  case round =>
    obtain ⟨x, li, rfl, hx, hll, hst, hown, hbr⟩ := hrel
    have hmr := bound_abide hm hbr
    have hbz := hbr.size
    by_cases he : x = ⟨#[]⟩
    · subst he
      have hst2 : ls ++ [r] = li ++ [[]] := by rw [← HL.out]; exact hst
      obtain ⟨rfl, rfl⟩ := parts_inj hst2
      clear hst hst2
      go_wp2
      go_ret2
      refine ⟨_, rfl, ?_, hbr⟩
      rw [show goodF ls [] = ls from rfl]
      exact hown
    · have hne : x.toList.isEmpty = false := by
        rw [Lib.toList_data, List.isEmpty_eq_false_iff]
        exact fun e => he (ByteArray.ext (Array.ext' e))
      rcases cut_ways x with ⟨h1, h2⟩ | ⟨X, Y, h1, h2, h3⟩
      · have hcut := cut_any x x ⟨#[]⟩ false m wr (by omega) hmr h2
        rw [h1] at hst
        have hst2 : ls ++ [r] = li ++ [x.data.toList] := by rw [← HL.out]; exact hst
        obtain ⟨rfl, rfl⟩ := parts_inj hst2
        have hr : x.data.toList ≠ [] := fun e => he (ByteArray.ext (Array.ext' e))
        have Hr := Lib.hid hr
        clear hst hst2 h1 h2 hr he hown
        go_wp2_with fail
        refine hcut.mono ?_
        rintro e w2 ⟨rfl, hw2⟩
        go_wp2
        go_ret2
        refine ⟨.slice none 0 0, by unfold codeF; rw [if_neg Hr.out]; rfl, ?_, hbr.trans (hw2.mono hbz)⟩
        unfold goodF
        rw [if_neg Hr.out]
        exact World.ownsRow_nil _ _ _ _
      · have hcut := cut_any x X Y true m wr (by omega) hmr h1
        have hst2 : linesQ s.data.toList = (li ++ [X.data.toList]) ++ linesQ Y.data.toList := by rw [hst, h2, List.append_assoc]; rfl
        have hcl := fun W => clone_any X W (by omega)
        have Hst := Lib.hid hst2
        clear hst hst2 h1 h2 he
        go_wp2_with fail
        refine hcut.mono ?_
        rintro e w2 ⟨rfl, hw2⟩
        have hb2 := hbr.trans (hw2.mono hbz)
        have hown2 := ownsRow_below4 hown hw2
        have hy2 := hb2.size
        clear hcut hown hw2
        go_wp2_with fail
        refine (hcl _).mono ?_
        rintro e w3 ⟨rfl, hw3⟩
        have hb3 := hb2.trans (hw3.mono hy2)
        have hown3 := (ownsRow_below4 hown2 hw3).alloc (.cells #[.string X] 9)
        have hy3 := hb3.size
        clear hcl hown2 hw3 hb2
        go_wp2_with (at_builtin; refine wpList_append_own _ rfl _ _ 57 rfl w.heap.size 9 i0 (.string ⟨#[]⟩) 1 16 Tryd.underlying57 hi hz0 hz1 hz2 rfl (by decide) _ li.length _ rfl hown3 ⟨w3.heap.size, 0, none⟩ 1 1 [.string X] rfl rfl ?n1 ?n2 ?n3 ?n4 ?n5 ?_)
        case n1 =>
          intro j u hj
          rw [Addr.add_lit]
          have hj0 : j = 0 := by
            rcases Nat.eq_zero_or_pos j with h | h
            · exact h
            · rw [List.getElem?_eq_none (by simp; omega)] at hj
              cases hj
          subst hj0
          simp at hj
          subst hj
          go_simp
        case n2 =>
          intro u hu
          simp at hu
          subst hu
          rfl
        case n3 => unfold maxLen; omega
        case n4 => omega
        case n5 => simp; omega
        intro v' w4 hown4 hgrow4 _
        have hb4 : Below w.heap.size w w4 := (hb3.alloc hy3 _).grown hgrow4 (by simp; omega) fun k hk => (hown3.lt k hk).1
        have hown5 : w4.ownsRow w.heap.size 9 1 v' (li ++ [X.data.toList]).length ((textsF (li ++ [X.data.toList])).map .string) := by
          rw [List.length_append, texts_snoc, List.map_append, text_data]
          exact hown4
        clear hown4 hgrow4 hown3 hb3
        go_wp2
        go_roundw
        case rel => exact ⟨Y, li ++ [X.data.toList], rfl, by omega, by simp; omega, Hst.out, hown5, hb4⟩
        case measure => show Y.size < x.size; omega
end Go.Proofs.YtneihcdeflfahaaDoor
