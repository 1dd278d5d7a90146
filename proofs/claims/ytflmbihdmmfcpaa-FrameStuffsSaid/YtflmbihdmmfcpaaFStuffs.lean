/-
  FrameStuffs returns true, for any two texts: the walk.
-/
import Derived.Test.YtflmbihdmmfcpaaAwake6
import Derived.Test.YtflmbihdmmfcpaaR6U
namespace Go.Proofs.Ytflmbihdmmfcpaa
open Go.RowKit

theorem unV_ways (o : Option (List UInt8 × List UInt8)) : ∃ (a b : ByteArray) (k : Int), unV o = .tuple #[.string a, .string b, .int .i64 k] := by
  cases o with
  | none => exact ⟨_, _, _, rfl⟩
  | some p => exact ⟨_, _, _, rfl⟩

set_option maxRecDepth 100000 in
set_option maxHeartbeats 4000000 in
theorem fstuffs_walk (s t : ByteArray) (m : Int) (w : World) (hm : w.cell? ⟨0, 0, none⟩ = some (.int .i64 m)) (hs : s.size ≤ maxLen) (ht : t.size ≤ maxLen) :
    Calls Try.prog 5 #[.string s, .string t] w fun e w' => e = .returned (.bool true) ∧ Below w.heap.size w w' := by
  have haw := awake6_any m w hm
  unfold maxLen at hs ht
  go_enter Try.func5, Try.ntmps5
  go_wp2_with fail
  refine haw.mono ?_
  rintro e w1 ⟨rfl, hw1⟩
  clear haw
  by_cases h1 : 3000 < s.size
  · go_wp2
    go_ret
    exact ⟨rfl, hw1⟩
  by_cases h2 : 3000 < t.size
  · go_wp2
    go_ret
    exact ⟨rfl, hw1⟩
  obtain ⟨ls, r, hl⟩ := lines_parts s.data.toList
  obtain ⟨G, hG⟩ : ∃ G, goodF ls r = G := ⟨_, rfl⟩
  obtain ⟨k, hk⟩ : ∃ k, codeF r = k := ⟨_, rfl⟩
  obtain ⟨X, hX⟩ : ∃ X : ByteArray, (⟨(stuffR ls r).toArray⟩ : ByteArray) = X := ⟨_, rfl⟩
  obtain ⟨U, V, j, hu⟩ := unV_ways (unF t.data.toList)
  obtain ⟨n, hn⟩ : ∃ n, G.length = n := ⟨_, rfl⟩
  obtain ⟨tx, htx⟩ : ∃ tx, textsF G = tx := ⟨_, rfl⟩
  have hn8 : n ≤ 3000 := by
    have h3 := whole_count ls
    have h5 : s.data.toList.length = s.size := rfl
    rw [whole_text hl, List.length_append] at h5
    rw [← hn, ← hG]
    unfold goodF
    split
    · omega
    · simp
  have C1 : Hid (∀ W, Below w.heap.size w W → Calls Try.prog 17 #[.string s] W fun e w' => ∃ A c, e = .returned (.tuple #[.slice A n c, .int .i64 k]) ∧ Strs w' w'.heap.size A n c tx ∧ Below W.heap.size W w') := Lib.hid fun W hW => by
    refine (flines_any s m ls r W (by omega) (bound_abide hm hW) hl).mono ?_
    rintro e w' ⟨v, he, hr, hb⟩
    rw [hG, hn, htx] at hr
    rw [hk] at he
    obtain ⟨A, c, rfl, hS⟩ := Strs.of_own hr
    exact ⟨A, c, he, hS, hb⟩
  have C2 : Hid (∀ W, Calls Try.prog 18 #[.string s] W fun e w' => ∃ A c, e = .returned (.tuple #[.slice A n c, .int .i64 k]) ∧ Strs w' w'.heap.size A n c tx ∧ Below W.heap.size W w') := Lib.hid fun W => by
    refine (r6lines_any s ls r W (by omega) hl).mono ?_
    rintro e w' ⟨v, he, hr, hb⟩
    rw [hG, hn, htx] at hr
    rw [hk] at he
    obtain ⟨A, c, rfl, hS⟩ := Strs.of_own hr
    exact ⟨A, c, he, hS, hb⟩
  have C3 : Hid (∀ W, Below w.heap.size w W → Calls Try.prog 19 #[.string s] W fun e w' => e = .returned (.tuple #[.string X, .int .i64 k]) ∧ Below W.heap.size W w') := Lib.hid fun W hW => by
    have := fstuff_any s m ls r W (by omega) (bound_abide hm hW) hl
    rw [hX, hk] at this
    exact this
  have C4 : Hid (∀ W, Calls Try.prog 20 #[.string s] W fun e w' => e = .returned (.tuple #[.string X, .int .i64 k]) ∧ Below W.heap.size W w') := Lib.hid fun W => by
    have := r6stuff_any s ls r W (by omega) hl
    rw [hX, hk] at this
    exact this
  have C5 : Hid (∀ W, Below w.heap.size w W → Calls Try.prog 21 #[.string t] W fun e w' => e = .returned (.tuple #[.string U, .string V, .int .i64 j]) ∧ Below W.heap.size W w') := Lib.hid fun W hW => by
    have := funst_any t m W (by omega) (bound_abide hm hW)
    rw [hu] at this
    exact this
  have C6 : Hid (∀ W, Calls Try.prog 22 #[.string t] W fun e w' => e = .returned (.tuple #[.string U, .string V, .int .i64 j]) ∧ Below W.heap.size W w') := Lib.hid fun W => by
    have := r6unst_any t W (by omega)
    rw [hu] at this
    exact this
  clear hl hG hk hX hu hn htx hm
  go_wp2_with fail
  refine (C1.out _ hw1).mono ?_
  rintro e w2 ⟨A1, c1, rfl, hS1, hb⟩
  have b2 := hw1.trans (hb.mono hw1.size)
  clear hb hw1 C1
  go_wp2_with fail
  refine (C2.out _).mono ?_
  rintro e w3 ⟨A2, c2, rfl, hS2, hb⟩
  have b3 := b2.trans (hb.mono b2.size)
  have hS1 := (hS1.below hb).more hb.size
  clear hb b2 C2
  go_wp2_with fail
  refine (C3.out _ b3).mono ?_
  rintro e w4 ⟨rfl, hb⟩
  have b4 := b3.trans (hb.mono b3.size)
  have hS1 := (hS1.below hb).more hb.size
  have hS2 := (hS2.below hb).more hb.size
  clear hb b3 C3
  go_wp2_with fail
  refine (C4.out _).mono ?_
  rintro e w5 ⟨rfl, hb⟩
  have b5 := b4.trans (hb.mono b4.size)
  have hS1 := (hS1.below hb).more hb.size
  have hS2 := (hS2.below hb).more hb.size
  clear hb b4 C4
  go_wp2_with fail
  refine (C5.out _ b5).mono ?_
  rintro e w6 ⟨rfl, hb⟩
  have b6 := b5.trans (hb.mono b5.size)
  have hS1 := (hS1.below hb).more hb.size
  have hS2 := (hS2.below hb).more hb.size
  clear hb b5 C5
  go_wp2_with fail
  refine (C6.out _).mono ?_
  rintro e w7 ⟨rfl, hb⟩
  have b7 := b6.trans (hb.mono b6.size)
  have hS1 := (hS1.below hb).more hb.size
  have hS2 := (hS2.below hb).more hb.size
  clear hb b6 C6
  go_wp2
  go_loopw [19] (fun iv wr => ∃ i : Nat, i ≤ n ∧ iv = .int .i64 i ∧ Below w7.heap.size w7 wr) (fun iv _ => n - (intOf iv).toNat)
  case atStart => exact ⟨0, by omega, rfl, Below.refl _ _⟩
  case round =>
    obtain ⟨i, hi1, rfl, hbr⟩ := hrel
    by_cases hlt : i < n
    · obtain ⟨g1, o1, rfl, _, q1⟩ := (hS1.below hbr).at_ hlt
      obtain ⟨g2, o2, rfl, _, q2⟩ := (hS2.below hbr).at_ hlt
      have p1 := q1 i hlt
      have p2 := q2 i hlt
      obtain ⟨Y, hY⟩ : ∃ Y, tx.getD i ByteArray.empty = Y := ⟨_, rfl⟩
      rw [hY] at p1 p2
      have k1 : (0 : Int) ≤ (i : Int) := by omega
      have k2 : (i : Int) < (n : Int) := by omega
      clear q1 q2 hY
      go_wp2
      go_quiet (fail)
      go_wp2
      go_roundw
      case rel => exact ⟨i + 1, by omega, by go_num, below_drewN hbr _⟩
      case measure => simp [intOf]; omega
    · obtain rfl : i = n := by omega
      go_wp2
      go_ret
      exact ⟨rfl, b7.trans (hbr.mono b7.size)⟩
end Go.Proofs.Ytflmbihdmmfcpaa
