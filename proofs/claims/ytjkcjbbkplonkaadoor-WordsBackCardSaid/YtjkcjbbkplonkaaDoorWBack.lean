/-
  WordsBack returns true, for any two texts: the walk.
-/
import Derived.Test.YtjkcjbbkplonkaaDoorAwakeW
namespace Go.Proofs.YtjkcjbbkplonkaaDoor
open Go.RowKit

set_option maxRecDepth 100000 in
set_option maxHeartbeats 4000000 in
theorem wback_walk (s t : ByteArray) (m : Int) (w : World) (hm : w.cell? ⟨0, 0, none⟩ = some (.int .i64 m)) (hs : s.size ≤ maxLen) (ht : t.size ≤ maxLen) :
    Calls Tryd.prog 4 #[.string s, .string t] w fun e w' => e = .returned (.bool true) ∧ Below w.heap.size w w' := by
  have haw := awakeW_any m w hm
  unfold maxLen at hs ht
  go_enter Tryd.func4, Tryd.ntmps4
  go_wp2_with fail
  refine haw.mono ?_
  rintro e w1 ⟨rfl, hw1⟩
  clear haw
  by_cases h1 : 1000 < s.size
  · go_wp2
    go_ret
    exact ⟨rfl, hw1⟩
  by_cases h2 : 2000 < t.size
  · go_wp2
    go_ret
    exact ⟨rfl, hw1⟩
  have hel := encW_len s.data.toList
  rw [show s.data.toList.length = s.size from rfl] at hel
  have C1 : Hid (∀ W, Below w.heap.size w W → Calls Tryd.prog 10 #[.string s] W fun e w' => e = .returned (.string ⟨(encW s.data.toList).toArray⟩) ∧ Below W.heap.size W w') := Lib.hid fun W hW => wenc_any s m W (by omega) (bound_belowW hm hW)
  obtain ⟨L, hL⟩ : ∃ L : ByteArray, (⟨(encW s.data.toList).toArray⟩ : ByteArray) = L := ⟨_, rfl⟩
  rw [hL] at C1
  have hLd : L.data.toList = encW s.data.toList := by rw [← hL]
  have hLs : L.size ≤ 20000 := by
    have : L.size = L.data.toList.length := rfl
    rw [this, hLd]
    omega
  have C2 : Hid (∀ W, Below w.heap.size w W → Calls Tryd.prog 8 #[.string L] W fun e w' => e = .returned (.tuple #[.string s, .int .i64 0]) ∧ Below W.heap.size W w') := Lib.hid fun W hW => by
    have := wdec_any L m W (by omega) (bound_belowW hm hW)
    rw [hLd, dec_encW] at this
    exact this
  have C3 : Hid (∀ W, Below w.heap.size w W → Calls Tryd.prog 8 #[.string t] W fun e w' => e = .returned (decV (decW t.data.toList)) ∧ Below W.heap.size W w') := Lib.hid fun W hW => wdec_any t m W (by omega) (bound_belowW hm hW)
  have HV : Hid (∀ i (h : i < L.size), 32 ≤ (L[i]).toNat ∧ (L[i]).toNat ≤ 126) := Lib.hid fun i h => by
    have := encW_vis s.data.toList (L[i]) (by
      rw [← hLd]
      exact List.getElem_mem (l := L.data.toList) (n := i) h)
    exact this
  clear hL hLd hel
  go_wp2_with fail
  refine (C1.out _ hw1).mono ?_
  rintro e w2 ⟨rfl, hb⟩
  have b2 := hw1.trans (hb.mono hw1.size)
  clear hb
  go_wp2
  go_loop [6] (fun iv => ∃ k : Nat, k ≤ L.size ∧ iv = .int .i64 k) (fun iv => L.size - (intOf iv).toNat)
  case atStart => exact ⟨0, by omega, rfl⟩
  case round =>
    obtain ⟨k, hk, rfl⟩ := hrel
    by_cases hlt : k < L.size
    · obtain ⟨hlo, hhi⟩ := HV.out k hlt
      have e1 : decide (((L[k]).toNat : Int) < 32) = false := decide_eq_false (by omega)
      have e2 : decide ((126 : Int) < ((L[k]).toNat : Int)) = false := decide_eq_false (by omega)
      clear hlo hhi
      go_wp2
      go_round
      case rel => exact ⟨k + 1, by omega, by go_num⟩
      case measure => simp [intOf]; omega
    · obtain rfl : k = L.size := by omega
      clear hk hlt
      go_wp2_with fail
      refine (C2.out _ b2).mono ?_
      rintro e w3 ⟨rfl, hb⟩
      have b3 := b2.trans (hb.mono b2.size)
      clear hb
      cases hd : decW t.data.toList with
      | none =>
        rw [hd] at C3
        clear hd
        go_wp2_with fail
        refine (C3.out _ b3).mono ?_
        rintro e w4 ⟨rfl, hb⟩
        have b4 := b3.trans (hb.mono b3.size)
        unfold decV
        clear hb
        go_wp2
        go_ret
        exact ⟨rfl, b4⟩
      | some r =>
        rw [hd] at C3
        have her := enc_decW hd
        have hrl := decW_len hd
        rw [show t.data.toList.length = t.size from rfl] at hrl
        obtain ⟨R, hR⟩ : ∃ R : ByteArray, (⟨r.toArray⟩ : ByteArray) = R := ⟨_, rfl⟩
        have hRl : R.data.toList = r := by rw [← hR]
        have hRs : R.size ≤ 2000 := by
          have h3 : R.size = R.data.toList.length := rfl
          rw [h3, hRl]
          omega
        have C4 : Hid (∀ W, Below w.heap.size w W → Calls Tryd.prog 10 #[.string R] W fun e w' => e = .returned (.string t) ∧ Below W.heap.size W w') := Lib.hid fun W hW => by
          have := wenc_any R m W (by omega) (bound_belowW hm hW)
          rw [hRl, her] at this
          exact this
        have C5 : Hid (∀ W, Below w.heap.size w W → Calls Tryd.prog 8 #[.string t] W fun e w' => e = .returned (.tuple #[.string R, .int .i64 0]) ∧ Below W.heap.size W w') := Lib.hid fun W hW => by
          have := C3.out W hW
          unfold decV at this
          simp only [hR] at this
          exact this
        clear hd her hR hRl hRs C3 hrl
        go_wp2_with fail
        refine (C5.out _ b3).mono ?_
        rintro e w4 ⟨rfl, hb⟩
        have b4 := b3.trans (hb.mono b3.size)
        clear hb
        go_wp2_with fail
        refine (C4.out _ b4).mono ?_
        rintro e w5 ⟨rfl, hb⟩
        have b5 := b4.trans (hb.mono b4.size)
        clear hb
        go_wp2
        go_ret
        exact ⟨rfl, b5⟩
end Go.Proofs.YtjkcjbbkplonkaaDoor
