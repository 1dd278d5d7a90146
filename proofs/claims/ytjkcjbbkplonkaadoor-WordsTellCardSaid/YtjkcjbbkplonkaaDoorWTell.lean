/-
  WordsTell returns true, for any two texts: the walk.
-/
import Derived.Test.YtjkcjbbkplonkaaDoorAwakeW
import Derived.Test.YtjkcjbbkplonkaaDoorR5D
namespace Go.Proofs.YtjkcjbbkplonkaaDoor
open Go.RowKit

set_option maxRecDepth 100000 in
set_option maxHeartbeats 4000000 in
theorem wtell_walk (s t : ByteArray) (m : Int) (w : World) (hm : w.cell? ⟨0, 0, none⟩ = some (.int .i64 m)) (hs : s.size ≤ maxLen) (ht : t.size ≤ maxLen) :
    Calls Tryd.prog 3 #[.string s, .string t] w fun e w' => e = .returned (.bool true) ∧ Below w.heap.size w w' := by
  have haw := awakeW_any m w hm
  unfold maxLen at hs ht
  go_enter Tryd.func3, Tryd.ntmps3
  go_wp2_with fail
  refine haw.mono ?_
  rintro e w1 ⟨rfl, hw1⟩
  clear haw
  by_cases h1 : 1000 < s.size
  · go_wp2
    go_ret
    exact ⟨rfl, hw1⟩
  by_cases h2 : 2000 < t.size
  · go_wp2
    go_ret
    exact ⟨rfl, hw1⟩
  have C1 : Hid (∀ W, Below w.heap.size w W → Calls Tryd.prog 10 #[.string s] W fun e w' => e = .returned (.string ⟨(encW s.data.toList).toArray⟩) ∧ Below W.heap.size W w') := Lib.hid fun W hW => wenc_any s m W (by omega) (bound_belowW hm hW)
  have C2 : Hid (∀ W, Calls Tryd.prog 11 #[.string s] W fun e w' => e = .returned (.string ⟨(encW s.data.toList).toArray⟩) ∧ Below W.heap.size W w') := Lib.hid fun W => r5enc_any s W (by omega)
  have C3 : Hid (∀ W, Below w.heap.size w W → Calls Tryd.prog 12 #[.string s] W fun e w' => e = .returned (.bool (plainW s.data.toList)) ∧ W = w') := Lib.hid fun W hW => wplain_any s m W (by omega) (bound_belowW hm hW)
  have C4 : Hid (∀ W, Calls Tryd.prog 13 #[.string s] W fun e w' => e = .returned (.bool (plainW s.data.toList)) ∧ W = w') := Lib.hid fun W => r5plain_any s W (by omega)
  have C5 : Hid (∀ W, Below w.heap.size w W → Calls Tryd.prog 8 #[.string t] W fun e w' => e = .returned (decV (decW t.data.toList)) ∧ Below W.heap.size W w') := Lib.hid fun W hW => wdec_any t m W (by omega) (bound_belowW hm hW)
  have C6 : Hid (∀ W, Calls Tryd.prog 9 #[.string t] W fun e w' => e = .returned (decV (decW t.data.toList)) ∧ Below W.heap.size W w') := Lib.hid fun W => r5dec_any t W (by omega)
  obtain ⟨E, hE⟩ : ∃ E : ByteArray, (⟨(encW s.data.toList).toArray⟩ : ByteArray) = E := ⟨_, rfl⟩
  obtain ⟨p, hp⟩ : ∃ p : Bool, plainW s.data.toList = p := ⟨_, rfl⟩
  obtain ⟨Y, n, hY⟩ : ∃ (Y : ByteArray) (n : Int), decV (decW t.data.toList) = .tuple #[.string Y, .int .i64 n] := by
    cases decW t.data.toList with
    | none => exact ⟨_, _, rfl⟩
    | some l => exact ⟨_, _, rfl⟩
  rw [hE] at C1 C2
  rw [hp] at C3 C4
  rw [hY] at C5 C6
  clear hE hp hY
  go_wp2_with fail
  refine (C5.out _ hw1).mono ?_
  rintro e w2 ⟨rfl, hb⟩
  have b2 := hw1.trans (hb.mono hw1.size)
  clear hb
  go_wp2_with fail
  refine (C6.out _).mono ?_
  rintro e w3 ⟨rfl, hb⟩
  have b3 := b2.trans (hb.mono b2.size)
  clear hb
  go_wp2_with fail
  refine (C1.out _ b3).mono ?_
  rintro e w4 ⟨rfl, hb⟩
  have b4 := b3.trans (hb.mono b3.size)
  clear hb
  go_wp2_with fail
  refine (C2.out _).mono ?_
  rintro e w5 ⟨rfl, hb⟩
  have b5 := b4.trans (hb.mono b4.size)
  clear hb
  go_wp2_with fail
  refine (C3.out _ b5).mono ?_
  rintro e w6 ⟨rfl, rfl⟩
  go_wp2_with fail
  refine (C4.out _).mono ?_
  rintro e w6 ⟨rfl, rfl⟩
  go_wp2
  go_ret
  exact ⟨rfl, b5⟩
end Go.Proofs.YtjkcjbbkplonkaaDoor
