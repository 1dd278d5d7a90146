/-
  WordsPlain returns true, for any text: the walk.
-/
import Derived.Test.YtjkcjbbkplonkaaDoorAwakeW
namespace Go.Proofs.YtjkcjbbkplonkaaDoor
open Go.RowKit

/-- How many bytes stand behind the last blank. -/
def runF (n : Nat) (l : List UInt8) : Nat := l.foldl (fun n c => if c = 32 then 0 else n + 1) n
theorem runF_snoc (n : Nat) (l : List UInt8) (c : UInt8) : runF n (l ++ [c]) = if c = 32 then 0 else runF n l + 1 := by
  unfold runF
  rw [List.foldl_append]
  rfl
theorem runF_le : ∀ (l : List UInt8) (n : Nat), runF n l ≤ n + l.length
  | [], n => by simp [runF]
  | c :: l, n => by
    have e : runF n (c :: l) = runF (if c = 32 then 0 else n + 1) l := rfl
    have ih := runF_le l (if c = 32 then 0 else n + 1)
    rw [e, List.length_cons]
    by_cases h : c = 32
    · rw [if_pos h] at ih ⊢
      omega
    · rw [if_neg h] at ih ⊢
      omega
theorem runF_blank (n : Nat) (a q : List UInt8) : runF n (a ++ 32 :: q) = runF 0 q := by
  unfold runF
  rw [List.foldl_append, List.foldl_cons, if_pos rfl]
theorem run_word {x : List UInt8} (hx : x.length ≤ 45) (k : Nat) : runF 0 ((wordW x).take k) ≤ 72 := by
  have h1 := runF_le ((wordW x).take k) 0
  rw [List.length_take, wordW_len] at h1
  omega
/-- No word of a text has more than 72 bytes. -/
theorem run_words (l : List UInt8) : ∀ n, l.length = n → ∀ k, runF 0 ((wordsW l).take k) ≤ 72 := by
  intro n
  induction n using Nat.strongRecOn generalizing l with
  | ind n ih =>
    intro hn k
    by_cases h : l.length ≤ 45
    · rw [words_short h]
      exact run_word h k
    · rw [words_long (by omega), List.take_append]
      obtain ⟨j, hj⟩ : ∃ j, k - (wordW (l.take 45)).length = j := ⟨_, rfl⟩
      rw [hj]
      cases j with
      | zero =>
        rw [List.take_zero, List.append_nil]
        exact run_word (by rw [List.length_take]; omega) k
      | succ j =>
        rw [List.take_succ_cons, runF_blank]
        exact ih (l.drop 45).length (by rw [List.length_drop]; omega) (l.drop 45) rfl j
theorem words_more (l : List UInt8) : ∀ n, l.length = n → l.length + 12 ≤ (wordsW l).length ∧ (l ≠ [] → 16 ≤ (wordsW l).length) := by
  intro n
  induction n using Nat.strongRecOn generalizing l with
  | ind n ih =>
    intro hn
    by_cases h : l.length ≤ 45
    · rw [words_short h, wordW_len]
      refine ⟨by omega, fun h0 => ?_⟩
      have := List.length_pos_iff.2 h0
      omega
    · have h1 := (ih (l.drop 45).length (by rw [List.length_drop]; omega) (l.drop 45) rfl).1
      rw [List.length_drop] at h1
      rw [words_long (by omega), List.length_append, List.length_cons, wordW_len, List.length_take]
      refine ⟨by omega, fun _ => by omega⟩
theorem ahead_eqW (X : ByteArray) : (X.extract 0 10).toList = X.data.toList.take 10 := by rw [text_bytesW, Lib.extract_data]; rfl
theorem behind_eqW (X : ByteArray) : (X.extract (X.size - 2) X.size).toList = X.data.toList.drop (X.size - 2) := by
  rw [text_bytesW, Lib.extract_data, List.take_of_length_le (by rw [List.length_drop]; exact Nat.le_refl _)]

set_option maxRecDepth 100000 in
set_option maxHeartbeats 4000000 in
theorem wplainl_walk (s : ByteArray) (m : Int) (w : World) (hm : w.cell? ⟨0, 0, none⟩ = some (.int .i64 m)) (hs : s.size ≤ maxLen) :
    Calls Tryd.prog 5 #[.string s] w fun e w' => e = .returned (.bool true) ∧ Below w.heap.size w w' := by
  have haw := awakeW_any m w hm
  unfold maxLen at hs
  go_enter Tryd.func5, Tryd.ntmps5
  go_wp2_with fail
  refine haw.mono ?_
  rintro e w1 ⟨rfl, hw1⟩
  clear haw
  by_cases h1 : 1000 < s.size
  · go_wp2
    go_ret
    exact ⟨rfl, hw1⟩
  have hel := encW_len s.data.toList
  rw [show s.data.toList.length = s.size from rfl] at hel
  have C1 : Hid (∀ W, Below w.heap.size w W → Calls Tryd.prog 10 #[.string s] W fun e w' => e = .returned (.string ⟨(encW s.data.toList).toArray⟩) ∧ Below W.heap.size W w') := Lib.hid fun W hW => wenc_any s m W (by omega) (bound_belowW hm hW)
  have C2 : Hid (∀ W, Below w.heap.size w W → Calls Tryd.prog 12 #[.string s] W fun e w' => e = .returned (.bool (plainW s.data.toList)) ∧ W = w') := Lib.hid fun W hW => wplain_any s m W (by omega) (bound_belowW hm hW)
  cases hp : plainW s.data.toList with
  | true =>
    have hL : (⟨(encW s.data.toList).toArray⟩ : ByteArray) = s := by
      unfold encW
      rw [if_pos hp]
    rw [hL] at C1
    rw [hp] at C2
    clear hL hp hel
    go_wp2_with fail
    refine (C1.out _ hw1).mono ?_
    rintro e w2 ⟨rfl, hb⟩
    have b2 := hw1.trans (hb.mono hw1.size)
    clear hb
    go_wp2_with fail
    refine (C2.out _ b2).mono ?_
    rintro e w3 ⟨rfl, rfl⟩
    go_wp2
    go_ret
    exact ⟨rfl, b2⟩
  | false =>
    have hw : encW s.data.toList = wordsW s.data.toList := by
      unfold encW
      rw [if_neg (by rw [hp]; simp)]
    rw [hw] at C1 hel
    rw [hp] at C2
    obtain ⟨hm1, hm2⟩ := words_more s.data.toList _ rfl
    have hm3 := hm2 (plainW_ne hp)
    have hrun := run_words s.data.toList _ rfl
    obtain ⟨ra, hra⟩ := words_begin s.data.toList
    obtain ⟨rb, hrb⟩ := words_end s.data.toList _ rfl
    have hnp := words_not_plain s.data.toList
    obtain ⟨L, hL⟩ : ∃ L : ByteArray, (⟨(wordsW s.data.toList).toArray⟩ : ByteArray) = L := ⟨_, rfl⟩
    have hLd : L.data.toList = wordsW s.data.toList := by rw [← hL]
    rw [hL] at C1
    rw [← hLd] at hel hm1 hm3 hrun hra hrb hnp
    rw [show L.data.toList.length = L.size from rfl] at hel hm1 hm3
    rw [show s.data.toList.length = s.size from rfl] at hm1
    have C3 : Hid (∀ W, Below w.heap.size w W → Calls Tryd.prog 12 #[.string L] W fun e w' => e = .returned (.bool false) ∧ W = w') := Lib.hid fun W hW => by
      have := wplain_any L m W (by omega) (bound_belowW hm hW)
      rw [hnp] at this
      exact this
    have e0 : (L.toList == s.toList) = false := by
      rw [text_bytesW, text_bytesW, beq_eq_false_iff_ne]
      intro e
      have := congrArg List.length e
      rw [show L.data.toList.length = L.size from rfl, show s.data.toList.length = s.size from rfl] at this
      omega
    have e1 : ((L.extract 0 10).toList == [61, 63, 85, 84, 70, 45, 56, 63, 66, 63]) = true := by
      rw [ahead_eqW, hra, List.take_left' (show aheadW.length = 10 from rfl)]
      rfl
    have e2 : ((L.extract (L.size - 2) L.size).toList == [63, 61]) = true := by
      have hl : L.size - 2 = rb.length := by
        have := congrArg List.length hrb
        rw [List.length_append, show L.data.toList.length = L.size from rfl] at this
        simp at this
        omega
      rw [behind_eqW, hl, hrb, List.drop_left' rfl]
      rfl
    have Hrun : Hid (∀ k (h : k < L.size), runF 0 (L.data.toList.take (k + 1)) = (if L[k] = 32 then 0 else runF 0 (L.data.toList.take k) + 1) ∧ runF 0 (L.data.toList.take (k + 1)) ≤ 72) := Lib.hid fun k h => by
      refine ⟨?_, hrun (k + 1)⟩
      rw [List.take_succ_eq_append_getElem (by simpa using h), runF_snoc]
      rfl
    have hL16 : (16 : Int) ≤ L.size := by omega
    have hLs : L.size ≤ 20000 := by omega
    clear hw hp hm1 hm2 hm3 hrun hra hrb hnp hL hLd hel
    go_wp2_with fail
    refine (C1.out _ hw1).mono ?_
    rintro e w2 ⟨rfl, hb⟩
    have b2 := hw1.trans (hb.mono hw1.size)
    clear hb
    go_wp2_with fail
    refine (C2.out _ b2).mono ?_
    rintro e w3 ⟨rfl, rfl⟩
    have HE := Lib.hid (And.intro e0 (And.intro e1 e2))
    clear e0 e1 e2
    go_wp2
    go_loop [4, 5] (fun nv iv => ∃ k n : Nat, k ≤ L.size ∧ iv = .int .i64 k ∧ nv = .int .i64 n ∧ n = runF 0 (L.data.toList.take k) ∧ n ≤ 72) (fun _ iv => L.size - (intOf iv).toNat)
    case atStart => exact ⟨0, 0, by omega, rfl, rfl, rfl, by omega⟩
    case round =>
      obtain ⟨k, n, hk, rfl, rfl, hn, hn72⟩ := hrel
      by_cases hlt : k < L.size
      · obtain ⟨hr1, hr2⟩ := Hrun.out k hlt
        rw [← hn] at hr1
        by_cases hc : L[k] = 32
        · have ec : (((L[k]).toNat : Int) == 32) = true := by rw [hc]; rfl
          rw [if_pos hc] at hr1
          have Hr1 := Lib.hid hr1
          clear hr1 hr2 hc hn
          go_wp2
          go_round
          case rel => exact ⟨k + 1, 0, by omega, by go_num, rfl, Hr1.out.symm, by omega⟩
          case measure => simp [intOf]; omega
        · have ec : (((L[k]).toNat : Int) == 32) = false := by
            rw [beq_eq_false_iff_ne]
            intro e
            exact hc (UInt8.toNat_inj.1 (by show _ = 32; omega))
          rw [if_neg hc] at hr1
          have hn1 : n + 1 ≤ 72 := by omega
          have Hr1 := Lib.hid hr1
          clear hr1 hr2 hc hn
          go_wp2
          go_round
          case rel => exact ⟨k + 1, n + 1, by omega, by go_num, by go_num, Hr1.out.symm, hn1⟩
          case measure => simp [intOf]; omega
      · obtain rfl : k = L.size := by omega
        obtain ⟨e0, e1, e2⟩ := HE.out
        clear hk hlt hn
        go_wp2_with fail
        refine (C3.out _ b2).mono ?_
        rintro e w4 ⟨rfl, rfl⟩
        go_wp2
        go_ret
        exact ⟨rfl, b2⟩
end Go.Proofs.YtjkcjbbkplonkaaDoor
