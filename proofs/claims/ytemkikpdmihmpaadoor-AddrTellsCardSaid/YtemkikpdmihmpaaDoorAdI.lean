/-
  What addr.readName comes to: words, as many as there are, with a blank between.
-/
import Derived.Test.YtemkikpdmihmpaaDoorAdH
import Derived.Test.YtemkikpdmihmpaaDoorAdR
namespace Go.Proofs.YtemkikpdmihmpaaDoor
open Go.RowKit

theorem hear_sum : ∀ (s acc : TextA) (say : Bool) (w r : TextA), hearA say acc s = some (w, r) → w.length + r.length < acc.length + s.length
  | [], acc, say, w, r, h => by cases say <;> cases h
  | c :: s, acc, true, w, r, h => by
    have := hear_sum s _ false w r h
    simp at this ⊢
    omega
  | c :: s, acc, false, w, r, h => by
    unfold hearA at h
    split at h
    · have := hear_sum s _ true w r h
      simp
      omega
    · split at h
      · cases h
        simp
      · have := hear_sum s _ false w r h
        simp at this ⊢
        omega
theorem word_sum {s w r : TextA} (h : wordA s = some (w, r)) : w.length + r.length ≤ s.length := by
  cases s with
  | nil => cases h
  | cons c s =>
    rw [word_cons] at h
    split at h
    · have := hear_sum _ _ _ _ _ h
      simp at this ⊢
      omega
    · split at h
      · cases h
        have := congrArg List.length (List.takeWhile_append_dropWhile (p := atomC) (l := c :: s))
        rw [List.length_append] at this
        omega
      · cases h
def lensA (ws : List TextA) : Nat := (ws.map List.length).sum
theorem lens_snoc (ws : List TextA) (x : TextA) : lensA (ws ++ [x]) = lensA ws + x.length := by simp [lensA]
theorem join_len : ∀ ws : List TextA, (joinA ws).length ≤ lensA ws + ws.length
  | [] => by simp [joinA, Lib.join, List.intercalate]
  | [x] => by simp [joinA, Lib.join, List.intercalate, lensA]
  | x :: y :: l => by
    have ih := join_len (y :: l)
    have e : joinA (x :: y :: l) = x ++ ([32] ++ joinA (y :: l)) := by
      simp [joinA, Lib.join, List.intercalate]
    rw [e]
    simp [lensA] at ih ⊢
    omega
theorem texts_data (ws : List TextA) : (ws.map textQ).map (·.data.toList) = ws := by
  rw [List.map_map]
  conv => rhs; rw [← List.map_id ws]
  rfl
theorem row_sliceA {w : World} {B e size n : Nat} {v : Value} {xs : List Value} (h : w.ownsRow B e size v n xs) : ∃ ao cap, v = .slice ao n cap := by
  rcases h.2 with ⟨rfl, rfl⟩ | ⟨g, cap, cur, rfl, _⟩
  · exact ⟨_, _, rfl⟩
  · exact ⟨_, _, rfl⟩
/-- The words of a row, with a blank between. -/
theorem join_row {w W : World} {B : Nat} {v : Value} {ws : List TextA} (h : TextsOwnA W B v ws) (hn : ws.length ≤ 1000000) (hl : lensA ws ≤ 1000000) :
    Calls Tryd.prog 68 #[v, .string ⟨#[32]⟩] W fun e w' => e = .returned (.string (textQ (joinA ws))) ∧ Below W.heap.size W w' := by
  obtain ⟨h1, h2⟩ := h
  rcases h2 with ⟨rfl, h0⟩ | ⟨g, cap, cur, rfl, hg, hb, hc, hm, hs, ht⟩
  · have hl : ws = [] := List.eq_nil_of_length_eq_zero h0
    subst hl
    refine (Tryd.strings_Join_none none 0 ⟨#[32]⟩ W).mono ?_
    rintro e w' ⟨rfl, rfl⟩
    exact ⟨rfl, Below.refl _ _⟩
  · have hj := Tryd.strings_Join g 0 cap (ws.map textQ) ⟨#[32]⟩ W (fun j x hj => by
      rw [Nat.zero_add, Lib.cell_of_heap hb j]
      have hlt : j < ws.length := by
        rcases Nat.lt_or_ge j ws.length with h3 | h3
        · exact h3
        · rw [List.getElem?_eq_none (by simpa using h3)] at hj
          cases hj
      have h4 : (textCells ws)[j]? = some (.string x) := by
        unfold textCells
        rw [List.getElem?_map] at hj ⊢
        rw [List.getElem?_eq_getElem hlt] at hj ⊢
        cases hj
        rfl
      rw [← ht, List.getElem?_take_of_lt (by omega)] at h4
      rw [← h4]
      simp) (heap_lt hb) (by simpa using (by omega : ws.length ≤ 140737488355328)) (by simpa using hc) (by
        rw [texts_data, show (⟨#[32]⟩ : ByteArray).data.toList = [32] from rfl]
        have := join_len ws
        show (joinA ws).length ≤ _
        omega)
    rw [texts_data, List.length_map] at hj
    exact hj

set_option maxRecDepth 100000 in
set_option maxHeartbeats 4000000 in
theorem ardn_any (s0 : ByteArray) (w : World) (hs : s0.size ≤ 500000) : Calls Tryd.prog 51 #[.string s0] w fun e w' => Told3 (readNameA s0.data.toList) e ∧ Below w.heap.size w w' := by
  obtain ⟨R, hR⟩ : ∃ R, readNameA s0.data.toList = R := ⟨_, rfl⟩
  rw [hR]
  have HR := Lib.hid hR
  clear hR
  go_enter Tryd.func51, Tryd.ntmps51
  go_wp2
  go_loopw [0, 5] (fun sv lv wr => ∃ (s : ByteArray) (ws : List TextA) (n : Nat), sv = .string s ∧ TextsOwnA wr w.heap.size lv ws ∧ Hid (s.data.toList.length < n ∧ namesN n ws s.data.toList = namesN (s0.data.toList.length + 1) [] s0.data.toList) ∧ ws.length + s.size ≤ s0.size ∧ lensA ws + s.size ≤ s0.size ∧ Below w.heap.size w wr) (fun sv _ _ => match sv with | .string s => s.size | _ => 0)
  case atStart => exact ⟨s0, [], _, rfl, World.ownsRow_nil _ _ _ _, Lib.hid ⟨Nat.lt_succ_self _, rfl⟩, by simp, by simp [lensA], Below.refl _ _⟩
  case round =>
    obtain ⟨s, ws, n, rfl, hown, hst, hz1, hz2, hbr⟩ := hrel
    have hrw := ardw_any s wr (by omega)
    have hbz := hbr.size
    obtain ⟨hn, hnm⟩ := hst.out
    obtain ⟨n, rfl⟩ : ∃ m, n = m + 1 := ⟨n - 1, by omega⟩
    rw [namesN] at hnm
    obtain ⟨k, hk⟩ : ∃ k, ws.length = k := ⟨_, rfl⟩
    have hown2 := hown
    obtain ⟨ao, cap, rfl⟩ := row_sliceA hown
    have Hown := Lib.hid hown
    clear hown
    rw [hk] at hown2 hz1 ⊢
    cases hq : wordA s.data.toList with
    | none =>
      rw [hq] at hnm hrw
      have hrw2 : Calls Tryd.prog 67 #[.string s] wr fun e w' => ∃ X Y, e = .returned (.tuple #[.string X, .string Y, .bool false]) ∧ Below wr.heap.size wr w' := hrw.mono fun e w' ⟨⟨X, Y, h⟩, hb⟩ => ⟨X, Y, h, hb⟩
      have hR2 := HR.out
      unfold readNameA at hR2
      rw [← hnm] at hR2
      have HR2 : Hid ((if ws = [] then none else some (joinA ws, s.data.toList)) = R) := Lib.hid hR2
      obtain ⟨J, hJ⟩ : ∃ J, textQ (joinA ws) = J := ⟨_, rfl⟩
      have hjoin : Hid (∀ W, Below wr.heap.size wr W → Calls Tryd.prog 68 #[.slice ao k cap, .string ⟨#[32]⟩] W fun e w' => e = .returned (.string J) ∧ Below W.heap.size W w') := Lib.hid fun W hW => by
        have := join_row (w := w) (ownsRow_belowA Hown.out hW) (by omega) (by omega)
        rw [hJ, hk] at this
        exact this
      have HJ := Lib.hid hJ
      clear hrw hR2 hJ hnm hst hq hn hown2
      go_wp2_with fail
      refine hrw2.mono ?_
      rintro e w1 ⟨X, Y, rfl, hw1⟩
      have hjw := hjoin.out w1 hw1
      have hb1 := hbr.trans (hw1.mono hbz)
      clear hrw2 hjoin hw1
      go_wp2_with fail
      refine hjw.mono ?_
      rintro e w2 ⟨rfl, hw2⟩
      have hb2 := hb1.trans (hw2.mono hb1.size)
      have HW := Lib.hid hk
      clear hk
      by_cases hk0 : k = 0
      · subst hk0
        have hws : ws = [] := List.eq_nil_of_length_eq_zero HW.out
        have hRn : R = none := by
          rw [← HR2.out, hws]
          rfl
        subst hRn
        clear hws
        go_wp2
        go_ret3
        exact ⟨⟨_, _, rfl⟩, hb2⟩
      · have hws : ws ≠ [] := fun e => hk0 (by rw [← HW.out, e]; rfl)
        have hRn : R = some (joinA ws, s.data.toList) := by
          rw [← HR2.out, if_neg hws]
        have hpos : 0 < k := by omega
        subst hRn
        clear hws hk0
        go_wp2
        go_ret3
        refine ⟨?_, hb2⟩
        show _ = _
        rw [HJ.out]
        rfl
    | some x =>
      obtain ⟨x, r⟩ := x
      rw [hq] at hnm hrw
      have hws := word_sum hq
      have hwl := word_len hq
      have hsk := skip_le r
      obtain ⟨X, hX⟩ : ∃ X, textQ x = X := ⟨_, rfl⟩
      obtain ⟨Y, hY⟩ : ∃ Y, textQ r = Y := ⟨_, rfl⟩
      obtain ⟨Z, hZ⟩ : ∃ Z, textQ (skipA r) = Z := ⟨_, rfl⟩
      have hZs : Z.size = (skipA r).length := by rw [← hZ]; rfl
      have hYs : Y.size = r.length := by rw [← hY]; rfl
      have hZd : Z.data.toList = skipA r := by rw [← hZ]; rfl
      have hsz : s.data.toList.length = s.size := rfl
      have hrw2 : Calls Tryd.prog 67 #[.string s] wr fun e w' => e = .returned (.tuple #[.string X, .string Y, .bool true]) ∧ Below wr.heap.size wr w' := hrw.mono fun e w' ⟨h, hb⟩ => ⟨by rw [← hX, ← hY]; exact h, hb⟩
      have hskp := fun W => askip_any Y W (by omega)
      rw [show Y.data.toList = r by rw [← hY]; rfl, hZ] at hskp
      have Hn : Hid (Z.data.toList.length < n ∧ namesN n (ws ++ [x]) Z.data.toList = namesN (s0.data.toList.length + 1) [] s0.data.toList) := Lib.hid ⟨by rw [hZd]; omega, by rw [hZd]; exact hnm⟩
      have hl1 : (ws ++ [x]).length + Z.size ≤ s0.size := by rw [List.length_append, hk, hZs]; simp; omega
      have hl2 : lensA (ws ++ [x]) + Z.size ≤ s0.size := by rw [lens_snoc, hZs]; omega
      have hlt : Z.size < s.size := by omega
      have HX := Lib.hid hX
      have HL := Lib.hid (And.intro hl1 (And.intro hl2 hlt))
      have Hk := Lib.hid hk
      have hk2 : k ≤ 10000000 := by omega
      clear hrw hnm hst hq hn hown2 hws hwl hsk hX hY hZ hZs hYs hZd hsz hl1 hl2 hlt hk
      go_wp2_with fail
      refine hrw2.mono ?_
      rintro e w1 ⟨rfl, hw1⟩
      have hb1 := hbr.trans (hw1.mono hbz)
      have ho1 := ownsRow_belowA Hown.out hw1
      obtain ⟨wa, hwa⟩ : ∃ wa, w1.alloc (.cells #[.string X] 9) = wa := ⟨_, rfl⟩
      have ha : Below w1.heap.size w1 wa := by rw [← hwa]; exact (Below.refl _ _).alloc (Nat.le_refl _) _
      have hoa : TextsOwnA wa w.heap.size (.slice ao k cap) ws := by
        rw [← Hk.out]
        exact ownsRow_belowA ho1 ha
      have hba := hb1.trans (ha.mono hb1.size)
      have hca : wa.cell? ⟨w1.heap.size, 0, none⟩ = some (.string (textQ x)) := by
        rw [HX.out, ← hwa]
        exact Lib.cell_of_heap (heap_alloc_new w1 _) 0
      have Hoa := Lib.hid hoa
      have Hba := Lib.hid hba
      have Hca := Lib.hid hca
      clear hrw2 hw1 hb1 ho1 ha hoa hba hca
      go_wp2_with (at_builtin; refine append_textA rfl _ _ rfl w.heap.size (.slice ao k cap) ws x rfl Hoa.out Hba.out.size (by rw [Hk.out]; exact hk2) w1.heap.size 1 rfl Hca.out ?_)
      intro v' w3 hown3 hgrow
      have hb3 : Below w.heap.size w w3 := Hba.out.grown hgrow Hba.out.size (fun q hq => (Hoa.out.lt q hq).1)
      have Hown3 := Lib.hid hown3
      have hskp3 := hskp w3
      have Hb3 := Lib.hid hb3
      clear hown3 hgrow hb3 Hoa Hba Hca hskp Hown
      obtain ⟨ao3, cap3, rfl⟩ := row_sliceA Hown3.out
      go_wp2_with fail
      refine hskp3.mono ?_
      rintro e w4 ⟨rfl, hw4⟩
      have hb4 := Hb3.out.trans (hw4.mono Hb3.out.size)
      have e9 : (ws ++ [x]).length = ws.length + 1 := by simp
      have hown4 : TextsOwnA w4 w.heap.size (.slice ao3 (ws.length + 1) cap3) (ws ++ [x]) := by
        rw [← e9]
        exact ownsRow_belowA Hown3.out hw4
      clear e9
      clear hskp3 hw4
      go_wp2
      exact ⟨⟨Z, _, n, rfl, hown4, Hn, HL.out.1, HL.out.2.1, hb4⟩, HL.out.2.2⟩
end Go.Proofs.YtemkikpdmihmpaaDoor
