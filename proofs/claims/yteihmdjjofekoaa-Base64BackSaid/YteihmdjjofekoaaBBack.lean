/-
  Base64Back returns true, for any two texts: the walk.
-/
import Derived.Test.YteihmdjjofekoaaAwake3
import Derived.Test.YteihmdjjofekoaaB64L
namespace Go.Proofs.Yteihmdjjofekoaa
open Go.RowKit

set_option maxRecDepth 100000 in
set_option maxHeartbeats 4000000 in
theorem bback_walk (s t : ByteArray) (m : Int) (w : World) (hm : w.cell? ⟨0, 0, none⟩ = some (.int .i64 m)) (hs : s.size ≤ maxLen) (ht : t.size ≤ maxLen) :
    Calls Try.prog 4 #[.string s, .string t] w fun e w' => e = .returned (.bool true) ∧ Below w.heap.size w w' := by
  have haw := awake3_any m w hm
  have hmb := cell_in hm
  unfold maxLen at hs ht
  go_enter Try.func4, Try.ntmps4
  go_wp2_with fail
  refine haw.mono ?_
  rintro e w1 ⟨rfl, hw1⟩
  clear haw
  by_cases h1 : 3000 < s.size
  · go_wp2
    go_ret
    exact ⟨rfl, hw1⟩
  by_cases h2 : 3000 < t.size
  · go_wp2
    go_ret
    exact ⟨rfl, hw1⟩
  have hel := enc_len s.data.toList
  have hfl := fold_size (encB s.data.toList)
  have hsl : s.data.toList.length = s.size := rfl
  rw [hsl] at hel
  rw [hel] at hfl
  have C1 : Hid (∀ W, Calls Try.prog 14 #[.string s] W fun e w' => e = .returned (.string ⟨(encB s.data.toList).toArray⟩) ∧ Below W.heap.size W w') := Lib.hid fun W => enc_any s W (by omega)
  have C2 : Hid (∀ W, Calls Try.prog 16 #[.string s] W fun e w' => e = .returned (.string ⟨(foldB (encB s.data.toList)).toArray⟩) ∧ Below W.heap.size W w') := Lib.hid fun W => fold_any s W (by omega)
  obtain ⟨L, hL⟩ : ∃ L : ByteArray, (⟨(encB s.data.toList).toArray⟩ : ByteArray) = L := ⟨_, rfl⟩
  obtain ⟨M, hM⟩ : ∃ M : ByteArray, (⟨(foldB (encB s.data.toList)).toArray⟩ : ByteArray) = M := ⟨_, rfl⟩
  rw [hL] at C1
  rw [hM] at C2
  have hLs : L.size = (s.size + 2) / 3 * 4 := by
    have : L.size = (encB s.data.toList).length := by rw [← hL]; rfl
    omega
  have hMs : M.size = (s.size + 2) / 3 * 4 + 2 * (((s.size + 2) / 3 * 4 + 75) / 76) := by
    have : M.size = (foldB (encB s.data.toList)).length := by rw [← hM]; rfl
    omega
  have q1 : ((L.size : Int) != ((s.size : Int) + 2) / 3 * 4) = false := by rw [bne_eq_false_iff_eq]; omega
  have q2 : ((M.size : Int) != ((s.size : Int) + 2) / 3 * 4 + 2 * ((((s.size : Int) + 2) / 3 * 4 + 75) / 76)) = false := by rw [bne_eq_false_iff_eq]; omega
  have C3 : Hid (∀ W, Calls Try.prog 10 #[.string L] W fun e w' => e = .returned (.tuple #[.string s, .int .i64 0]) ∧ Below W.heap.size W w') := Lib.hid fun W => by
    have := dec_any L W (by omega)
    rw [show L.data.toList = encB s.data.toList by rw [← hL], dec_enc] at this
    exact this
  have C4 : Hid (∀ W, Below w.heap.size w W → Calls Try.prog 12 #[.string M] W fun e w' => e = .returned (.tuple #[.string s, .int .i64 0]) ∧ Below W.heap.size W w') := Lib.hid fun W hW => by
    have := unfold_any M m W (by omega) ((hW.cell (p := ⟨0, 0, none⟩) hmb).trans hm)
    rw [show M.data.toList = foldB (encB s.data.toList) by rw [← hM], unfold_fold] at this
    exact this
  have C5 : Hid (∀ W, Calls Try.prog 10 #[.string t] W fun e w' => e = .returned (decV (decB t.data.toList)) ∧ Below W.heap.size W w') := Lib.hid fun W => dec_any t W (by omega)
  clear hL hM hLs hMs hel hfl hsl hm
  go_wp2_with fail
  refine (C1.out _).mono ?_
  rintro e w2 ⟨rfl, hb⟩
  have b2 := hw1.trans (hb.mono hw1.size)
  clear hb
  go_wp2_with fail
  refine (C2.out _).mono ?_
  rintro e w3 ⟨rfl, hb⟩
  have b3 := b2.trans (hb.mono b2.size)
  clear hb
  go_wp2_with fail
  refine (C3.out _).mono ?_
  rintro e w4 ⟨rfl, hb⟩
  have b4 := b3.trans (hb.mono b3.size)
  clear hb
  go_wp2_with fail
  refine (C4.out _ b4).mono ?_
  rintro e w5 ⟨rfl, hb⟩
  have b5 := b4.trans (hb.mono b4.size)
  clear hb
  cases hd : decB t.data.toList with
  | none =>
    rw [hd] at C5
    clear hd
    go_wp2_with fail
    refine (C5.out _).mono ?_
    rintro e w6 ⟨rfl, hb⟩
    have b6 := b5.trans (hb.mono b5.size)
    unfold decV
    clear hb
    go_wp2
    go_ret
    exact ⟨rfl, b6⟩
  | some r =>
    rw [hd] at C5
    have her := enc_dec t.data.toList r hd
    obtain ⟨R, hR⟩ : ∃ R : ByteArray, (⟨r.toArray⟩ : ByteArray) = R := ⟨_, rfl⟩
    have hRl : R.data.toList = r := by rw [← hR]
    have hrl := enc_len r
    have hRs : R.size ≤ 10000 := by
      have h3 : R.size = R.data.toList.length := rfl
      rw [h3, hRl]
      rw [her] at hrl
      have h4 : t.data.toList.length = t.size := rfl
      omega
    have C6 : Hid (∀ W, Calls Try.prog 14 #[.string R] W fun e w' => e = .returned (.string t) ∧ Below W.heap.size W w') := Lib.hid fun W => by
      have := enc_any R W (by omega)
      rw [hRl, her] at this
      exact this
    have C7 : Hid (∀ W, Calls Try.prog 10 #[.string t] W fun e w' => e = .returned (.tuple #[.string R, .int .i64 0]) ∧ Below W.heap.size W w') := Lib.hid fun W => by
      have := C5.out W
      unfold decV at this
      simp only [hR] at this
      exact this
    clear hd her hR hRl hrl hRs C5
    go_wp2_with fail
    refine (C7.out _).mono ?_
    rintro e w6 ⟨rfl, hb⟩
    have b6 := b5.trans (hb.mono b5.size)
    clear hb
    go_wp2_with fail
    refine (C6.out _).mono ?_
    rintro e w7 ⟨rfl, hb⟩
    have b7 := b6.trans (hb.mono b6.size)
    clear hb
    go_wp2
    go_ret
    exact ⟨rfl, b7⟩
end Go.Proofs.Yteihmdjjofekoaa
