/-
  Base64Tells returns true, for any two texts: the walk.
-/
import Derived.Test.YteihmdjjofekoaaAwake3
import Derived.Test.YteihmdjjofekoaaR3F
namespace Go.Proofs.Yteihmdjjofekoaa
open Go.RowKit

set_option maxRecDepth 100000 in
set_option maxHeartbeats 4000000 in
theorem btells_walk (s t : ByteArray) (m : Int) (w : World) (hm : w.cell? ⟨0, 0, none⟩ = some (.int .i64 m)) (hs : s.size ≤ maxLen) (ht : t.size ≤ maxLen) :
    Calls Try.prog 3 #[.string s, .string t] w fun e w' => e = .returned (.bool true) ∧ Below w.heap.size w w' := by
  have haw := awake3_any m w hm
  have hmb := cell_in hm
  unfold maxLen at hs ht
  go_enter Try.func3, Try.ntmps3
  go_wp2_with fail
  refine haw.mono ?_
  rintro e w1 ⟨rfl, hw1⟩
  clear haw
  by_cases h1 : 2000 < s.size
  · go_wp2
    go_ret
    exact ⟨rfl, hw1⟩
  by_cases h2 : 2000 < t.size
  · go_wp2
    go_ret
    exact ⟨rfl, hw1⟩
  have C1 : Hid (∀ W, Calls Try.prog 14 #[.string s] W fun e w' => e = .returned (.string ⟨(encB s.data.toList).toArray⟩) ∧ Below W.heap.size W w') := Lib.hid fun W => enc_any s W (by omega)
  have C2 : Hid (∀ W, Calls Try.prog 15 #[.string s] W fun e w' => e = .returned (.string ⟨(encB s.data.toList).toArray⟩) ∧ Below W.heap.size W w') := Lib.hid fun W => r3enc_any s W (by omega)
  have C3 : Hid (∀ W, Calls Try.prog 16 #[.string s] W fun e w' => e = .returned (.string ⟨(foldB (encB s.data.toList)).toArray⟩) ∧ Below W.heap.size W w') := Lib.hid fun W => fold_any s W (by omega)
  have C4 : Hid (∀ W, Calls Try.prog 17 #[.string s] W fun e w' => e = .returned (.string ⟨(foldB (encB s.data.toList)).toArray⟩) ∧ Below W.heap.size W w') := Lib.hid fun W => r3fold_any s W (by omega)
  have C5 : Hid (∀ W, Calls Try.prog 10 #[.string t] W fun e w' => e = .returned (decV (decB t.data.toList)) ∧ Below W.heap.size W w') := Lib.hid fun W => dec_any t W (by omega)
  have C6 : Hid (∀ W, Calls Try.prog 11 #[.string t] W fun e w' => e = .returned (decV (decB t.data.toList)) ∧ Below W.heap.size W w') := Lib.hid fun W => r3dec_any t W (by omega)
  have C7 : Hid (∀ W, Below w.heap.size w W → Calls Try.prog 12 #[.string t] W fun e w' => e = .returned (decV (unfoldB t.data.toList)) ∧ Below W.heap.size W w') := Lib.hid fun W hW => unfold_any t m W (by omega) ((hW.cell (p := ⟨0, 0, none⟩) hmb).trans hm)
  have C8 : Hid (∀ W, Calls Try.prog 13 #[.string t] W fun e w' => e = .returned (decV (unfoldB t.data.toList)) ∧ Below W.heap.size W w') := Lib.hid fun W => r3unf_any t W (by omega)
  obtain ⟨X, hX⟩ : ∃ X : ByteArray, (⟨(encB s.data.toList).toArray⟩ : ByteArray) = X := ⟨_, rfl⟩
  obtain ⟨Y, hY⟩ : ∃ Y : ByteArray, (⟨(foldB (encB s.data.toList)).toArray⟩ : ByteArray) = Y := ⟨_, rfl⟩
  obtain ⟨d, k, hd⟩ : ∃ (d : ByteArray) (k : Int), decV (decB t.data.toList) = .tuple #[.string d, .int .i64 k] := by
    cases decB t.data.toList with
    | none => exact ⟨_, _, rfl⟩
    | some l => exact ⟨_, _, rfl⟩
  obtain ⟨u, j, hu⟩ : ∃ (u : ByteArray) (j : Int), decV (unfoldB t.data.toList) = .tuple #[.string u, .int .i64 j] := by
    cases unfoldB t.data.toList with
    | none => exact ⟨_, _, rfl⟩
    | some l => exact ⟨_, _, rfl⟩
  rw [hX] at C1 C2
  rw [hY] at C3 C4
  rw [hd] at C5 C6
  rw [hu] at C7 C8
  clear hX hY hd hu hm
  go_wp2_with fail
  refine (C5.out _).mono ?_
  rintro e w2 ⟨rfl, hb⟩
  have b2 := hw1.trans (hb.mono hw1.size)
  clear hb
  go_wp2_with fail
  refine (C6.out _).mono ?_
  rintro e w3 ⟨rfl, hb⟩
  have b3 := b2.trans (hb.mono b2.size)
  clear hb
  go_wp2_with fail
  refine (C7.out _ b3).mono ?_
  rintro e w4 ⟨rfl, hb⟩
  have b4 := b3.trans (hb.mono b3.size)
  clear hb
  go_wp2_with fail
  refine (C8.out _).mono ?_
  rintro e w5 ⟨rfl, hb⟩
  have b5 := b4.trans (hb.mono b4.size)
  clear hb
  go_wp2_with fail
  refine (C1.out _).mono ?_
  rintro e w6 ⟨rfl, hb⟩
  have b6 := b5.trans (hb.mono b5.size)
  clear hb
  go_wp2_with fail
  refine (C2.out _).mono ?_
  rintro e w7 ⟨rfl, hb⟩
  have b7 := b6.trans (hb.mono b6.size)
  clear hb
  go_wp2_with fail
  refine (C3.out _).mono ?_
  rintro e w8 ⟨rfl, hb⟩
  have b8 := b7.trans (hb.mono b7.size)
  clear hb
  go_wp2_with fail
  refine (C4.out _).mono ?_
  rintro e w9 ⟨rfl, hb⟩
  have b9 := b8.trans (hb.mono b8.size)
  clear hb
  go_wp2
  go_ret
  exact ⟨rfl, b9⟩
end Go.Proofs.Yteihmdjjofekoaa
