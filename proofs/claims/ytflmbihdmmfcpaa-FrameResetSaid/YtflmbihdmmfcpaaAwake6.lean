/-
  awake, the sixth law file's own call: true, and what it makes lies in memory of its own. Rows of told lines, read.
-/
import Derived.Test.YtflmbihdmmfcpaaFrC
import Derived.Test.YtflmbihdmmfcpaaFrE
namespace Go.Proofs.Ytflmbihdmmfcpaa
open Go.RowKit

theorem lines_cells_get : ∀ (ls : List (List UInt8)) (i : Nat) (h : i < ls.length), (linesCells ls)[i * 2]? = some (.string (textQ (keptF ls[i]))) ∧ (linesCells ls)[i * 2 + 1]? = some (.bool (longF ls[i]))
  | [], i, h => by cases h
  | l :: ls, 0, _ => ⟨rfl, rfl⟩
  | l :: ls, i + 1, h => by
    have ih := lines_cells_get ls i (by simpa using h)
    have e : linesCells (l :: ls) = [.string (textQ (keptF l)), .bool (longF l)] ++ linesCells ls := rfl
    rw [e]
    refine ⟨?_, ?_⟩
    · rw [show (i + 1) * 2 = i * 2 + 2 by omega, List.getElem?_append_right (by simp)]
      exact ih.1
    · rw [show (i + 1) * 2 + 1 = (i * 2 + 1) + 2 by omega, List.getElem?_append_right (by simp)]
      exact ih.2
/-- A row of told lines: none, or its block with each line's text and mark. -/
theorem row_lines {w : World} {B e : Nat} {v : Value} {ls : List (List UInt8)} (h : w.ownsRow B e 2 v ls.length (linesCells ls)) :
    (ls = [] ∧ ∃ ao cap, v = .slice ao 0 cap) ∨ ∃ g cap, v = .slice (some ⟨g, 0, none⟩) ls.length cap ∧ B ≤ g ∧ g < w.heap.size ∧ ∀ i (hi : i < ls.length), w.cell? ⟨g, i * 2, none⟩ = some (.string (textQ (keptF ls[i]))) ∧ w.cell? ⟨g, i * 2 + 1, none⟩ = some (.bool (longF ls[i])) := by
  have h2 := h.2
  rcases h2 with ⟨rfl, h0⟩ | ⟨g, cap, cur, rfl, hb, hg, _⟩
  · exact .inl ⟨List.eq_nil_of_length_eq_zero h0, none, 0, rfl⟩
  · refine .inr ⟨g, cap, rfl, hb, (Array.getElem?_eq_some_iff.1 hg).1, fun i hi => ?_⟩
    obtain ⟨c1, c2⟩ := lines_cells_get ls i hi
    have d1 := h.cells (g := g) rfl _ _ c1
    have d2 := h.cells (g := g) rfl _ _ c2
    rw [Addr.add_lit, Nat.zero_add] at d1 d2
    exact ⟨d1, d2⟩

theorem wake6_cut : linesQ ([] ++ (⟨#[97]⟩ : ByteArray).data.toList) = [] ++ [[97]] := by decide +kernel
theorem wake6_cut2 : linesQ ([97] ++ (⟨#[13, 10, 98]⟩ : ByteArray).data.toList) = [[97]] ++ [[98]] := by decide +kernel
theorem wake6_lines : linesQ (⟨#[46, 120, 13, 10]⟩ : ByteArray).data.toList = [[46, 120]] ++ [[]] := by decide +kernel
theorem wake6_lines2 : linesQ (⟨#[97, 13, 10, 13, 10]⟩ : ByteArray).data.toList = [[97], []] ++ [[]] := by decide +kernel
theorem wake6_stuff : stuffR [[46, 120]] [] = [46, 46, 120, 13, 10, 46, 13, 10] := by decide +kernel
theorem wake6_un : unF (⟨#[46, 46, 120, 13, 10, 46, 13, 10, 109, 111, 114, 101]⟩ : ByteArray).data.toList = some ([46, 120, 13, 10], [109, 111, 114, 101]) := by decide +kernel
theorem wake6_un2 : unF (⟨#[120, 13, 10]⟩ : ByteArray).data.toList = none := by decide +kernel

set_option maxRecDepth 100000 in
set_option maxHeartbeats 4000000 in
theorem awake6_any (m : Int) (w : World) (hm : w.cell? ⟨0, 0, none⟩ = some (.int .i64 m)) : Calls Try.prog 9 #[] w fun e w' => e = .returned (.bool true) ∧ Below w.heap.size w w' := by
  have C1 : Hid (∀ W, Below w.heap.size w W → Calls Try.prog 19 #[.string ⟨#[46, 120, 13, 10]⟩] W fun e w' => e = .returned (.tuple #[.string ⟨#[46, 46, 120, 13, 10, 46, 13, 10]⟩, .int .i64 0]) ∧ Below W.heap.size W w') := Lib.hid fun W hW => by
    have := fstuff_any ⟨#[46, 120, 13, 10]⟩ m _ _ W (by decide) (bound_abide hm hW) wake6_lines
    rw [wake6_stuff] at this
    exact this
  have C2 : Hid (∀ W, Below w.heap.size w W → Calls Try.prog 21 #[.string ⟨#[46, 46, 120, 13, 10, 46, 13, 10, 109, 111, 114, 101]⟩] W fun e w' => e = .returned (.tuple #[.string ⟨#[46, 120, 13, 10]⟩, .string ⟨#[109, 111, 114, 101]⟩, .int .i64 0]) ∧ Below W.heap.size W w') := Lib.hid fun W hW => by
    have := funst_any ⟨#[46, 46, 120, 13, 10, 46, 13, 10, 109, 111, 114, 101]⟩ m W (by decide) (bound_abide hm hW)
    rw [wake6_un] at this
    exact this
  have C3 : Hid (∀ W, Below w.heap.size w W → Calls Try.prog 21 #[.string ⟨#[120, 13, 10]⟩] W fun e w' => e = .returned (.tuple #[.string ⟨#[]⟩, .string ⟨#[]⟩, .int .i64 2]) ∧ Below W.heap.size W w') := Lib.hid fun W hW => by
    have := funst_any ⟨#[120, 13, 10]⟩ m W (by decide) (bound_abide hm hW)
    rw [wake6_un2] at this
    exact this
  have C4 : Hid (∀ W, Below w.heap.size w W → Calls Try.prog 17 #[.string ⟨#[97, 13, 10, 13, 10]⟩] W fun e w' => ∃ A c, e = .returned (.tuple #[.slice A 2 c, .int .i64 0]) ∧ Below W.heap.size W w') := Lib.hid fun W hW => by
    refine (flines_any ⟨#[97, 13, 10, 13, 10]⟩ m _ _ W (by decide) (bound_abide hm hW) wake6_lines2).mono ?_
    rintro e w' ⟨v, he, hr, hb⟩
    obtain ⟨A, c, rfl⟩ := row_slice hr
    exact ⟨A, c, he, hb⟩
  go_enter Try.func9, Try.ntmps9
  go_wp2_with fail
  refine (frnew_any w.heap.size w (Nat.le_refl _)).mono ?_
  rintro e w1 ⟨rfl, hF1, hb1, hl1⟩
  go_wp2_with fail
  refine (feed_any w.heap.size w.heap.size _ [] [97] [] 0 ⟨#[97]⟩ w1 hb1.size hF1 rfl wake6_cut (by decide) (by omega)).mono ?_
  rintro e w2 ⟨vl, v2, rfl, hr2, hF2, ht2, _⟩
  obtain ⟨ao, ca, rfl⟩ := row_slice hr2
  have hb2 : Below w.heap.size w w2 := hb1.trans (ht2.below hb1.size (fun b hb => (FramerOf.blocks hF1 b hb).1))
  clear hF1 ht2 hr2 hl1
  go_wp2_with fail
  refine (feed_any w.heap.size w.heap.size _ [97] [98] [[97]] 1 ⟨#[13, 10, 98]⟩ w2 hb2.size hF2 rfl wake6_cut2 (by decide) (by omega)).mono ?_
  rintro e w3 ⟨vl, v3, rfl, hr3, hF3, ht3, _⟩
  have hb3 : Below w.heap.size w w3 := hb2.trans (ht3.below hb2.size (fun b hb => (FramerOf.blocks hF2 b hb).1))
  rcases row_lines hr3 with ⟨h0, _⟩ | ⟨g, cg, rfl, hg1, hg2, hgc⟩
  · cases h0
  obtain ⟨c0, c1⟩ := hgc 0 (by decide)
  rw [show textQ (keptF ([[97]] : List (List UInt8))[0]) = ⟨#[97]⟩ by rfl] at c0
  rw [show longF ([[97]] : List (List UInt8))[0] = false by rfl] at c1
  have hF3' : FramerAt w3 w.heap.size w.heap.size v3 [98] 4 := hF3
  clear hF2 ht3 hr3 hF3 hgc
  go_wp2_with fail
  refine (C1.out _ hb3).mono ?_
  rintro e w4 ⟨rfl, hw4⟩
  have b4 := hb3.trans (hw4.mono hb3.size)
  go_wp2_with fail
  refine (C2.out _ b4).mono ?_
  rintro e w5 ⟨rfl, hw5⟩
  have b5 := b4.trans (hw5.mono b4.size)
  have b35 : Below w3.heap.size w3 w5 := hw4.trans (hw5.mono hw4.size)
  go_wp2_with fail
  refine (C3.out _ b5).mono ?_
  rintro e w6 ⟨rfl, hw6⟩
  have b6 := b5.trans (hw6.mono b5.size)
  have b36 : Below w3.heap.size w3 w6 := b35.trans (hw6.mono b35.size)
  go_wp2_with fail
  refine (C4.out _ b6).mono ?_
  rintro e w7 ⟨A, c, rfl, hw7⟩
  have b7 := b6.trans (hw7.mono b6.size)
  have b37 : Below w3.heap.size w3 w7 := b36.trans (hw7.mono b36.size)
  have hF7 : FramerAt w7 w.heap.size w.heap.size v3 [98] 4 := FramerOf.keep (S := fun _ => False) hF3' (Turned.of_below b37 (Nat.le_refl _)) (fun _ _ h => h)
  have d0 := (b37.cell (p := ⟨g, 0 * 2, none⟩) hg2).trans c0
  have d1 := (b37.cell (p := ⟨g, 0 * 2 + 1, none⟩) hg2).trans c1
  have hwait := frwait_any w.heap.size w.heap.size v3 [98] 4 w7 hF7
  have hfed := frfed_any w.heap.size w.heap.size v3 [98] 4 w7 hF7
  rw [show ((waitF [98] : Nat) : Int) = 1 by rfl] at hwait
  clear hF7 hF3' c0 c1 hw4 hw5 hw6 hw7 b35 b36 b37 b4 b5 b6 hb3 C1 C2 C3 C4 hb2 hb1
  go_wp2_with fail
  refine hwait.mono ?_
  rintro e w8 ⟨rfl, hw8⟩
  obtain rfl := hw8.symm
  clear hw8 hwait
  go_wp2_with fail
  refine hfed.mono ?_
  rintro e w9 ⟨rfl, hw9⟩
  obtain rfl := hw9.symm
  clear hw9 hfed
  go_wp2
  go_ret
  exact ⟨rfl, b7⟩
end Go.Proofs.Ytflmbihdmmfcpaa
