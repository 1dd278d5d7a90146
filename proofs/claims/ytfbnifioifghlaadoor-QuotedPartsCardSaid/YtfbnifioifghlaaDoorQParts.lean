/-
  QuotedParts returns true, for any two texts: the walk.
-/
import Derived.Test.YtfbnifioifghlaaDoorAwake4
import Derived.Test.YtfbnifioifghlaaDoorQ4E
namespace Go.Proofs.YtfbnifioifghlaaDoor
open Go.RowKit

theorem parts_data (a b : ByteArray) : (a ++ b).data.toList = a.data.toList ++ b.data.toList := by simp

set_option maxRecDepth 100000 in
set_option maxHeartbeats 4000000 in
theorem qparts_walk (s t : ByteArray) (m : Int) (w : World) (hm : w.cell? ⟨0, 0, none⟩ = some (.int .i64 m)) (hs : s.size ≤ maxLen) (ht : t.size ≤ maxLen) :
    Calls Tryd.prog 6 #[.string s, .string t] w fun e w' => e = .returned (.bool true) ∧ Below w.heap.size w w' := by
  have haw := awake4_any m w hm
  unfold maxLen at hs ht
  go_enter Tryd.func6, Tryd.ntmps6
  go_wp2_with fail
  refine haw.mono ?_
  rintro e w1 ⟨rfl, hw1⟩
  clear haw
  by_cases h1 : 2000 < s.size
  · go_wp2
    go_ret
    exact ⟨rfl, hw1⟩
  by_cases h2 : 2000 < t.size
  · go_wp2
    go_ret
    exact ⟨rfl, hw1⟩
  have hel := encQ_len s.data.toList
  have htl := encQ_len t.data.toList
  rw [show s.data.toList.length = s.size from rfl] at hel
  rw [show t.data.toList.length = t.size from rfl] at htl
  have hX : (s ++ ⟨#[13, 10]⟩ ++ t).data.toList = s.data.toList ++ 13 :: 10 :: t.data.toList := by
    rw [parts_data, parts_data, List.append_assoc]
    rfl
  have hXs : (s ++ ⟨#[13, 10]⟩ ++ t).size ≤ 5000 := by
    rw [ByteArray.size_append, ByteArray.size_append]
    have : (⟨#[13, 10]⟩ : ByteArray).size = 2 := rfl
    omega
  obtain ⟨P, hP⟩ : ∃ P : ByteArray, (⟨(encQ s.data.toList).toArray⟩ : ByteArray) = P := ⟨_, rfl⟩
  obtain ⟨Q, hQ⟩ : ∃ Q : ByteArray, (⟨(encQ t.data.toList).toArray⟩ : ByteArray) = Q := ⟨_, rfl⟩
  have hPs : P.size ≤ 20000 := by
    have : P.size = (encQ s.data.toList).length := by rw [← hP]; rfl
    omega
  have hQs : Q.size ≤ 20000 := by
    have : Q.size = (encQ t.data.toList).length := by rw [← hQ]; rfl
    omega
  have hR : (⟨(encQ (s ++ ⟨#[13, 10]⟩ ++ t).data.toList).toArray⟩ : ByteArray) = P ++ ⟨#[13, 10]⟩ ++ Q := by
    refine ByteArray.ext (Array.ext' ?_)
    show encQ (s ++ ⟨#[13, 10]⟩ ++ t).data.toList = _
    rw [hX, enc_parts, parts_data, parts_data, ← hP, ← hQ, List.append_assoc]
    rfl
  have C1 : Hid (∀ W, Below w.heap.size w W → Calls Tryd.prog 12 #[.string (s ++ ⟨#[13, 10]⟩ ++ t)] W fun e w' => e = .returned (.string (P ++ ⟨#[13, 10]⟩ ++ Q)) ∧ Below W.heap.size W w') := Lib.hid fun W hW => by
    have := q4enc_any (s ++ ⟨#[13, 10]⟩ ++ t) m W (by omega) (bound_below hm hW)
    rw [hR] at this
    exact this
  have C2 : Hid (∀ W, Below w.heap.size w W → Calls Tryd.prog 12 #[.string s] W fun e w' => e = .returned (.string P) ∧ Below W.heap.size W w') := Lib.hid fun W hW => by
    have := q4enc_any s m W (by omega) (bound_below hm hW)
    rw [hP] at this
    exact this
  have C3 : Hid (∀ W, Below w.heap.size w W → Calls Tryd.prog 12 #[.string t] W fun e w' => e = .returned (.string Q) ∧ Below W.heap.size W w') := Lib.hid fun W hW => by
    have := q4enc_any t m W (by omega) (bound_below hm hW)
    rw [hQ] at this
    exact this
  clear hR hP hQ hX hXs hel htl
  by_cases h0 : s.size = 0
  · have hd : ¬ 0 < s.size := by omega
    clear h0
    go_wp2_with fail
    refine (C1.out _ hw1).mono ?_
    rintro e w2 ⟨rfl, hb⟩
    have b2 := hw1.trans (hb.mono hw1.size)
    clear hb
    go_wp2_with fail
    refine (C2.out _ b2).mono ?_
    rintro e w3 ⟨rfl, hb⟩
    have b3 := b2.trans (hb.mono b2.size)
    clear hb
    go_wp2_with fail
    refine (C3.out _ b3).mono ?_
    rintro e w4 ⟨rfl, hb⟩
    have b4 := b3.trans (hb.mono b3.size)
    clear hb
    go_wp2
    go_ret
    exact ⟨rfl, b4⟩
  · have hd : 0 < s.size := by omega
    have hil : s.size - 1 < s.size := by omega
    by_cases hc : s[s.size - 1] = 13
    · have hk : (((s[s.size - 1]'hil).toNat : Int) == 13) = true := by rw [hc]; rfl
      go_wp2
      go_ret
      exact ⟨rfl, hw1⟩
    · have hk : (((s[s.size - 1]'hil).toNat : Int) == 13) = false := by
        rw [beq_eq_false_iff_ne]
        intro h
        exact hc (UInt8.toNat_inj.mp (by show _ = 13; omega))
      go_wp2_with fail
      refine (C1.out _ hw1).mono ?_
      rintro e w2 ⟨rfl, hb⟩
      have b2 := hw1.trans (hb.mono hw1.size)
      clear hb
      go_wp2_with fail
      refine (C2.out _ b2).mono ?_
      rintro e w3 ⟨rfl, hb⟩
      have b3 := b2.trans (hb.mono b2.size)
      clear hb
      go_wp2_with fail
      refine (C3.out _ b3).mono ?_
      rintro e w4 ⟨rfl, hb⟩
      have b4 := b3.trans (hb.mono b3.size)
      clear hb
      go_wp2
      go_ret
      exact ⟨rfl, b4⟩
end Go.Proofs.YtfbnifioifghlaaDoor
