/-
  QuotedTells returns true, for any two texts, any byte, last or not: the walk.
-/
import Derived.Test.YtfbnifioifghlaaDoorAwake4
import Derived.Test.YtfbnifioifghlaaDoorR4D
namespace Go.Proofs.YtfbnifioifghlaaDoor
open Go.RowKit

set_option maxRecDepth 100000 in
set_option maxHeartbeats 4000000 in
theorem qtells_walk (s t : ByteArray) (c : UInt8) (last : Bool) (m : Int) (w : World) (hm : w.cell? ⟨0, 0, none⟩ = some (.int .i64 m)) (hs : s.size ≤ maxLen) (ht : t.size ≤ maxLen) :
    Calls Tryd.prog 3 #[.string s, .string t, .int .u8 (c.toNat : Int), .bool last] w fun e w' => e = .returned (.bool true) ∧ Below w.heap.size w w' := by
  have haw := awake4_any m w hm
  unfold maxLen at hs ht
  go_enter Tryd.func3, Tryd.ntmps3
  go_wp2_with fail
  refine haw.mono ?_
  rintro e w1 ⟨rfl, hw1⟩
  clear haw
  by_cases h1 : 3000 < s.size
  · go_wp2
    go_ret
    exact ⟨rfl, hw1⟩
  by_cases h2 : 3000 < t.size
  · go_wp2
    go_ret
    exact ⟨rfl, hw1⟩
  have C1 : Hid (∀ W, Below w.heap.size w W → Calls Tryd.prog 12 #[.string s] W fun e w' => e = .returned (.string ⟨(encQ s.data.toList).toArray⟩) ∧ Below W.heap.size W w') := Lib.hid fun W hW => q4enc_any s m W (by omega) (bound_below hm hW)
  have C2 : Hid (∀ W, Calls Tryd.prog 13 #[.string s] W fun e w' => e = .returned (.string ⟨(encQ s.data.toList).toArray⟩) ∧ Below W.heap.size W w') := Lib.hid fun W => r4enc_any s W (by omega)
  have C3 : Hid (∀ W, Below w.heap.size w W → Calls Tryd.prog 10 #[.string t] W fun e w' => e = .returned (decV4 (decQ t.data.toList)) ∧ Below W.heap.size W w') := Lib.hid fun W hW => q4dec_any t m W (by omega) (bound_below hm hW)
  have C4 : Hid (∀ W, Calls Tryd.prog 11 #[.string t] W fun e w' => e = .returned (decV4 (decQ t.data.toList)) ∧ Below W.heap.size W w') := Lib.hid fun W => r4dec_any t W (by omega)
  have C5 : Hid (∀ W, Calls Tryd.prog 14 #[.int .u8 (c.toNat : Int), .bool last] W fun e w' => e = .returned (.string ⟨(signB c last).toArray⟩) ∧ Below W.heap.size W w') := Lib.hid fun W => q4sign_any c last W
  have C6 : Hid (∀ W, Calls Tryd.prog 15 #[.int .u8 (c.toNat : Int), .bool last] W fun e w' => e = .returned (.string ⟨(signB c last).toArray⟩) ∧ Below W.heap.size W w') := Lib.hid fun W => r4sign_any c last W
  obtain ⟨X, hX⟩ : ∃ X : ByteArray, (⟨(encQ s.data.toList).toArray⟩ : ByteArray) = X := ⟨_, rfl⟩
  obtain ⟨Y, hY⟩ : ∃ Y : ByteArray, (⟨(signB c last).toArray⟩ : ByteArray) = Y := ⟨_, rfl⟩
  obtain ⟨d, k, hd⟩ : ∃ (d : ByteArray) (k : Int), decV4 (decQ t.data.toList) = .tuple #[.string d, .int .i64 k] := by
    cases decQ t.data.toList with
    | none => exact ⟨_, _, rfl⟩
    | some l => exact ⟨_, _, rfl⟩
  rw [hX] at C1 C2
  rw [hY] at C5 C6
  rw [hd] at C3 C4
  clear hX hY hd
  go_wp2_with fail
  refine (C3.out _ hw1).mono ?_
  rintro e w2 ⟨rfl, hb⟩
  have b2 := hw1.trans (hb.mono hw1.size)
  clear hb
  go_wp2_with fail
  refine (C4.out _).mono ?_
  rintro e w3 ⟨rfl, hb⟩
  have b3 := b2.trans (hb.mono b2.size)
  clear hb
  go_wp2_with fail
  refine (C1.out _ b3).mono ?_
  rintro e w4 ⟨rfl, hb⟩
  have b4 := b3.trans (hb.mono b3.size)
  clear hb
  go_wp2_with fail
  refine (C2.out _).mono ?_
  rintro e w5 ⟨rfl, hb⟩
  have b5 := b4.trans (hb.mono b4.size)
  clear hb
  go_wp2_with fail
  refine (C5.out _).mono ?_
  rintro e w6 ⟨rfl, hb⟩
  have b6 := b5.trans (hb.mono b5.size)
  clear hb
  go_wp2_with fail
  refine (C6.out _).mono ?_
  rintro e w7 ⟨rfl, hb⟩
  have b7 := b6.trans (hb.mono b6.size)
  clear hb
  go_wp2
  go_ret
  exact ⟨rfl, b7⟩
end Go.Proofs.YtfbnifioifghlaaDoor
