/-
  QuotedBack returns true, for any two texts: the walk.
-/
import Derived.Test.YtfbnifioifghlaaDoorAwake4
import Derived.Test.YtfbnifioifghlaaDoorQ4E
namespace Go.Proofs.YtfbnifioifghlaaDoor
open Go.RowKit

set_option maxRecDepth 100000 in
set_option maxHeartbeats 4000000 in
theorem qback_walk (s t : ByteArray) (m : Int) (w : World) (hm : w.cell? ⟨0, 0, none⟩ = some (.int .i64 m)) (hs : s.size ≤ maxLen) (ht : t.size ≤ maxLen) :
    Calls Tryd.prog 4 #[.string s, .string t] w fun e w' => e = .returned (.bool true) ∧ Below w.heap.size w w' := by
  have haw := awake4_any m w hm
  unfold maxLen at hs ht
  go_enter Tryd.func4, Tryd.ntmps4
  go_wp2_with fail
  refine haw.mono ?_
  rintro e w1 ⟨rfl, hw1⟩
  clear haw
  by_cases h1 : 3000 < s.size
  · go_wp2
    go_ret
    exact ⟨rfl, hw1⟩
  by_cases h2 : 3000 < t.size
  · go_wp2
    go_ret
    exact ⟨rfl, hw1⟩
  have hel := encQ_len s.data.toList
  rw [show s.data.toList.length = s.size from rfl] at hel
  have C1 : Hid (∀ W, Below w.heap.size w W → Calls Tryd.prog 12 #[.string s] W fun e w' => e = .returned (.string ⟨(encQ s.data.toList).toArray⟩) ∧ Below W.heap.size W w') := Lib.hid fun W hW => q4enc_any s m W (by omega) (bound_below hm hW)
  obtain ⟨L, hL⟩ : ∃ L : ByteArray, (⟨(encQ s.data.toList).toArray⟩ : ByteArray) = L := ⟨_, rfl⟩
  rw [hL] at C1
  have hLs : L.size ≤ 20000 := by
    have : L.size = (encQ s.data.toList).length := by rw [← hL]; rfl
    omega
  have C2 : Hid (∀ W, Below w.heap.size w W → Calls Tryd.prog 10 #[.string L] W fun e w' => e = .returned (.tuple #[.string s, .int .i64 0]) ∧ Below W.heap.size W w') := Lib.hid fun W hW => by
    have := q4dec_any L m W (by omega) (bound_below hm hW)
    rw [show L.data.toList = encQ s.data.toList by rw [← hL], decQ_enc] at this
    exact this
  have C3 : Hid (∀ W, Below w.heap.size w W → Calls Tryd.prog 10 #[.string t] W fun e w' => e = .returned (decV4 (decQ t.data.toList)) ∧ Below W.heap.size W w') := Lib.hid fun W hW => q4dec_any t m W (by omega) (bound_below hm hW)
  clear hL hLs hel
  go_wp2_with fail
  refine (C1.out _ hw1).mono ?_
  rintro e w2 ⟨rfl, hb⟩
  have b2 := hw1.trans (hb.mono hw1.size)
  clear hb
  go_wp2_with fail
  refine (C2.out _ b2).mono ?_
  rintro e w3 ⟨rfl, hb⟩
  have b3 := b2.trans (hb.mono b2.size)
  clear hb
  cases hd : decQ t.data.toList with
  | none =>
    rw [hd] at C3
    clear hd
    go_wp2_with fail
    refine (C3.out _ b3).mono ?_
    rintro e w4 ⟨rfl, hb⟩
    have b4 := b3.trans (hb.mono b3.size)
    unfold decV4
    clear hb
    go_wp2
    go_ret
    exact ⟨rfl, b4⟩
  | some r =>
    rw [hd] at C3
    have her := encQ_dec hd
    obtain ⟨R, hR⟩ : ∃ R : ByteArray, (⟨r.toArray⟩ : ByteArray) = R := ⟨_, rfl⟩
    have hRl : R.data.toList = r := by rw [← hR]
    have hRs : R.size ≤ 3000 := by
      have h3 : R.size = R.data.toList.length := rfl
      have h4 : t.data.toList.length = t.size := rfl
      have h5 := encQ_ge r
      rw [her] at h5
      rw [h3, hRl]
      omega
    have C4 : Hid (∀ W, Below w.heap.size w W → Calls Tryd.prog 12 #[.string R] W fun e w' => e = .returned (.string t) ∧ Below W.heap.size W w') := Lib.hid fun W hW => by
      have := q4enc_any R m W (by omega) (bound_below hm hW)
      rw [hRl, her] at this
      exact this
    have C5 : Hid (∀ W, Below w.heap.size w W → Calls Tryd.prog 10 #[.string t] W fun e w' => e = .returned (.tuple #[.string R, .int .i64 0]) ∧ Below W.heap.size W w') := Lib.hid fun W hW => by
      have := C3.out W hW
      unfold decV4 at this
      simp only [hR] at this
      exact this
    clear hd her hR hRl hRs C3
    go_wp2_with fail
    refine (C5.out _ b3).mono ?_
    rintro e w4 ⟨rfl, hb⟩
    have b4 := b3.trans (hb.mono b3.size)
    clear hb
    go_wp2_with fail
    refine (C4.out _ b4).mono ?_
    rintro e w5 ⟨rfl, hb⟩
    have b5 := b4.trans (hb.mono b4.size)
    clear hb
    go_wp2
    go_ret
    exact ⟨rfl, b5⟩
end Go.Proofs.YtfbnifioifghlaaDoor
