/-
  FrameBack returns true, for any two texts: the walk.
-/
import Derived.Test.YtflmbihdmmfcpaaAwake6
namespace Go.Proofs.Ytflmbihdmmfcpaa
open Go.RowKit

theorem lines_stuff_alone {ls : List (List UInt8)} (h : ∀ l ∈ ls, linesQ l = [l]) : linesQ (stuffF ls) = (ls.map dotF ++ [[46]]) ++ [[]] := by
  have := lines_stuff h []
  rw [List.append_nil] at this
  rw [this, List.append_assoc]
  rfl
theorem parts_clean {s r : List UInt8} {ls : List (List UInt8)} (h : linesQ s = ls ++ [r]) : ∀ l ∈ ls, linesQ l = [l] := fun l hl => lines_clean s l (by rw [h]; exact List.mem_append_left _ hl)

set_option maxRecDepth 100000 in
set_option maxHeartbeats 4000000 in
theorem fback_walk (s t : ByteArray) (m : Int) (w : World) (hm : w.cell? ⟨0, 0, none⟩ = some (.int .i64 m)) (hs : s.size ≤ maxLen) (ht : t.size ≤ maxLen) :
    Calls Try.prog 6 #[.string s, .string t] w fun e w' => e = .returned (.bool true) ∧ Below w.heap.size w w' := by
  have haw := awake6_any m w hm
  unfold maxLen at hs ht
  go_enter Try.func6, Try.ntmps6
  go_wp2_with fail
  refine haw.mono ?_
  rintro e w1 ⟨rfl, hw1⟩
  clear haw
  by_cases h1 : 3000 < s.size
  · go_wp2
    go_ret
    exact ⟨rfl, hw1⟩
  by_cases h2 : 3000 < t.size
  · go_wp2
    go_ret
    exact ⟨rfl, hw1⟩
  obtain ⟨ls, r, hl⟩ := lines_parts s.data.toList
  have C1 : Hid (∀ W, Below w.heap.size w W → Calls Try.prog 19 #[.string s] W fun e w' => e = .returned (.tuple #[.string ⟨(stuffR ls r).toArray⟩, .int .i64 (codeF r)]) ∧ Below W.heap.size W w') := Lib.hid fun W hW => fstuff_any s m ls r W (by omega) (bound_abide hm hW) hl
  by_cases hr : r = []
  · subst hr
    rw [show stuffR ls [] = stuffF ls from rfl, show codeF [] = 0 from rfl] at C1
    obtain ⟨X, hX⟩ : ∃ X : ByteArray, (⟨(stuffF ls).toArray⟩ : ByteArray) = X := ⟨_, rfl⟩
    have hXl : X.data.toList = stuffF ls := by rw [← hX]
    have hwh : wholeF ls = s.data.toList := by
      have := whole_text hl
      rw [List.append_nil] at this
      exact this.symm
    have hXs : X.size ≤ 6003 := by
      have h3 : X.size = (stuffF ls).length := by rw [← hX]; rfl
      have h4 := stuff_len ls
      have h5 : s.data.toList.length = s.size := rfl
      rw [hwh, h5] at h4
      omega
    have hcl := parts_clean hl
    have C2 : Hid (∀ W, Below w.heap.size w W → Calls Try.prog 21 #[.string (X ++ t)] W fun e w' => e = .returned (.tuple #[.string s, .string t, .int .i64 0]) ∧ Below W.heap.size W w') := Lib.hid fun W hW => by
      have := funst_any (X ++ t) m W (by rw [ByteArray.size_append]; omega) (bound_abide hm hW)
      rw [show (X ++ t).data.toList = X.data.toList ++ t.data.toList by simp, hXl, un_stuff hcl, hwh] at this
      exact this
    have C3 : Hid (∀ W, Below w.heap.size w W → Calls Try.prog 17 #[.string X] W fun e w' => ∃ A c, e = .returned (.tuple #[.slice A (ls.map dotF ++ [[46]]).length c, .int .i64 0]) ∧ Strs w' w'.heap.size A (ls.map dotF ++ [[46]]).length c (textsF (ls.map dotF ++ [[46]])) ∧ Below W.heap.size W w') := Lib.hid fun W hW => by
      have := flines_any X m (ls.map dotF ++ [[46]]) [] W (by omega) (bound_abide hm hW) (by rw [hXl]; exact lines_stuff_alone hcl)
      refine this.mono ?_
      rintro e w' ⟨v, he, hr, hb⟩
      rw [show goodF (ls.map dotF ++ [[46]]) [] = ls.map dotF ++ [[46]] from rfl] at hr
      obtain ⟨A, c, rfl, hS⟩ := Strs.of_own hr
      exact ⟨A, c, he, hS, hb⟩
    rw [hX] at C1
    obtain ⟨n, hn⟩ : ∃ n, ls.length = n := ⟨_, rfl⟩
    have hlen : (ls.map dotF ++ [[46]]).length = n + 1 := by simp [hn]
    have hn8 : n ≤ 3000 := by
      have h3 := whole_count ls
      have h5 : s.data.toList.length = s.size := rfl
      rw [hwh] at h3
      omega
    rw [hlen] at C3
    have Hdot : Hid (∀ i (h : i < n), ∃ Y : ByteArray, (textsF (ls.map dotF ++ [[46]])).getD i ByteArray.empty = Y ∧ (Y.toList == [46]) = false) := Lib.hid fun i h => by
      refine ⟨_, rfl, ?_⟩
      rw [texts_get _ i (by rw [hlen]; omega), List.getElem_append_left (by simp; omega), List.getElem_map, Lib.toList_data, beq_eq_false_iff_ne]
      exact dot_ne _
    have Hlast : Hid ((textsF (ls.map dotF ++ [[46]])).getD n ByteArray.empty = ⟨#[46]⟩) := Lib.hid (by
      rw [texts_get _ n (by rw [hlen]; omega), List.getElem_append_right (by simp; omega)]
      simp [hn]
      rfl)
    obtain ⟨tx, htx⟩ : ∃ tx, textsF (ls.map dotF ++ [[46]]) = tx := ⟨_, rfl⟩
    rw [htx] at C3 Hdot Hlast
    clear hX hXl hwh hcl hlen hn htx hl hm
    go_wp2_with fail
    refine (C1.out _ hw1).mono ?_
    rintro e w2 ⟨rfl, hb⟩
    have b2 := hw1.trans (hb.mono hw1.size)
    clear hb hw1 C1
    go_wp2_with fail
    refine (C2.out _ b2).mono ?_
    rintro e w3 ⟨rfl, hb⟩
    have b3 := b2.trans (hb.mono b2.size)
    clear hb b2 C2
    go_wp2_with fail
    refine (C3.out _ b3).mono ?_
    rintro e w4 ⟨A, c, rfl, hS, hb⟩
    have b4 := b3.trans (hb.mono b3.size)
    clear hb b3 C3
    go_wp2
    go_loop [12] (fun iv => ∃ i : Nat, i ≤ n + 1 ∧ iv = .int .i64 i) (fun iv => n + 1 - (intOf iv).toNat)
    case atStart => exact ⟨0, by omega, rfl⟩
    case round =>
      obtain ⟨i, hi1, rfl⟩ := hrel
      by_cases hlt : i < n
      · obtain ⟨Y, hY, hne⟩ := Hdot.out i hlt
        obtain ⟨b, off, rfl, _, hc⟩ := hS.at_ (k := i) (by omega)
        have hci := hc i (by omega)
        rw [hY] at hci
        have hin : (((i : Nat) : Int) == (n : Int)) = false := by rw [beq_eq_false_iff_ne]; omega
        clear hc hY
        go_wp2
        exact ⟨⟨i + 1, by omega, by go_num⟩, by simp [intOf]; omega⟩
      · by_cases heq : i = n
        · obtain ⟨b, off, rfl, _, hc⟩ := hS.at_ (k := n) (by omega)
          have hci := hc n (by omega)
          rw [Hlast.out] at hci
          clear hc
          subst heq
          go_wp2
          exact ⟨⟨i + 1, by omega, by go_num⟩, by simp [intOf]⟩
        · obtain rfl : i = n + 1 := by omega
          go_wp2
          go_ret
          exact ⟨rfl, b4⟩
  · rw [show stuffR ls r = [] by unfold stuffR; rw [if_neg hr], show codeF r = 2 by unfold codeF; rw [if_neg hr]] at C1
    clear hr hl hm
    go_wp2_with fail
    refine (C1.out _ hw1).mono ?_
    rintro e w2 ⟨rfl, hb⟩
    have b2 := hw1.trans (hb.mono hw1.size)
    clear hb C1
    go_wp2
    go_ret
    exact ⟨rfl, b2⟩
end Go.Proofs.Ytflmbihdmmfcpaa
