/-
  WordsParts returns true, for any two texts: the walk.
-/
import Derived.Test.YtjkcjbbkplonkaaDoorAwakeW
namespace Go.Proofs.YtjkcjbbkplonkaaDoor
open Go.RowKit

theorem partsW_data (a b : ByteArray) : (a ++ b).data.toList = a.data.toList ++ b.data.toList := by simp

set_option maxRecDepth 100000 in
set_option maxHeartbeats 4000000 in
theorem wparts_walk (s t : ByteArray) (m : Int) (w : World) (hm : w.cell? ⟨0, 0, none⟩ = some (.int .i64 m)) (hs : s.size ≤ maxLen) (ht : t.size ≤ maxLen) :
    Calls Tryd.prog 6 #[.string s, .string t] w fun e w' => e = .returned (.bool true) ∧ Below w.heap.size w w' := by
  have haw := awakeW_any m w hm
  unfold maxLen at hs ht
  go_enter Tryd.func6, Tryd.ntmps6
  go_wp2_with fail
  refine haw.mono ?_
  rintro e w1 ⟨rfl, hw1⟩
  clear haw
  by_cases h1 : 900 < s.size
  · go_wp2
    go_ret
    exact ⟨rfl, hw1⟩
  by_cases h2 : 900 < t.size
  · go_wp2
    go_ret
    exact ⟨rfl, hw1⟩
  obtain ⟨A, hA⟩ : ∃ A : ByteArray, s.extract 0 (s.size / 45 * 45) = A := ⟨_, rfl⟩
  have hAd : A.data.toList = s.data.toList.take (s.size / 45 * 45) := by rw [← hA, Lib.extract_data]; rfl
  have hAs : A.size = s.size / 45 * 45 := by
    have e : A.size = A.data.toList.length := rfl
    rw [e, hAd, List.length_take, show s.data.toList.length = s.size from rfl]
    omega
  have hA9 : A.size ≤ 900 := by omega
  have HA := Lib.hid hA
  have C1 : Hid (∀ W, Below w.heap.size w W → Calls Tryd.prog 12 #[.string A] W fun e w' => e = .returned (.bool (plainW A.data.toList)) ∧ W = w') := Lib.hid fun W hW => wplain_any A m W (by omega) (bound_belowW hm hW)
  have C2 : Hid (∀ W, Below w.heap.size w W → Calls Tryd.prog 12 #[.string t] W fun e w' => e = .returned (.bool (plainW t.data.toList)) ∧ W = w') := Lib.hid fun W hW => wplain_any t m W (by omega) (bound_belowW hm hW)
  cases hp : plainW A.data.toList with
  | true =>
    rw [hp] at C1
    clear hp hAd hAs hA
    go_wp2_with fail
    rw [HA.out]
    refine (C1.out _ hw1).mono ?_
    rintro e w2 ⟨rfl, rfl⟩
    go_wp2
    go_ret
    exact ⟨rfl, hw1⟩
  | false =>
    rw [hp] at C1
    cases hq : plainW t.data.toList with
    | true =>
      rw [hq] at C2
      clear hp hq hAd hAs hA
      go_wp2_with fail
      rw [HA.out]
      refine (C1.out _ hw1).mono ?_
      rintro e w2 ⟨rfl, rfl⟩
      go_wp2_with fail
      refine (C2.out _ hw1).mono ?_
      rintro e w2 ⟨rfl, rfl⟩
      go_wp2
      go_ret
      exact ⟨rfl, hw1⟩
    | false =>
      rw [hq] at C2
      have e1 : (A.toList == []) = false := by rw [text_bytesW]; exact beq_eq_false_iff_ne.2 (plainW_ne hp)
      have e2 : (t.toList == []) = false := by rw [text_bytesW]; exact beq_eq_false_iff_ne.2 (plainW_ne hq)
      obtain ⟨n, hn⟩ : ∃ n, A.data.toList.length = 45 * (n + 1) := by
        have h0 := List.length_pos_iff.2 (plainW_ne hp)
        rw [show A.data.toList.length = A.size from rfl] at h0 ⊢
        exact ⟨s.size / 45 - 1, by omega⟩
      have hpa := enc_partsW hn hp hq
      have hla := encW_len A.data.toList
      have hlt := encW_len t.data.toList
      rw [show A.data.toList.length = A.size from rfl] at hla
      rw [show t.data.toList.length = t.size from rfl] at hlt
      have D1 : Hid (∀ W, Below w.heap.size w W → Calls Tryd.prog 10 #[.string A] W fun e w' => e = .returned (.string ⟨(encW A.data.toList).toArray⟩) ∧ Below W.heap.size W w') := Lib.hid fun W hW => wenc_any A m W (by omega) (bound_belowW hm hW)
      have D2 : Hid (∀ W, Below w.heap.size w W → Calls Tryd.prog 10 #[.string t] W fun e w' => e = .returned (.string ⟨(encW t.data.toList).toArray⟩) ∧ Below W.heap.size W w') := Lib.hid fun W hW => wenc_any t m W (by omega) (bound_belowW hm hW)
      obtain ⟨P, hP⟩ : ∃ P : ByteArray, (⟨(encW A.data.toList).toArray⟩ : ByteArray) = P := ⟨_, rfl⟩
      obtain ⟨Q, hQ⟩ : ∃ Q : ByteArray, (⟨(encW t.data.toList).toArray⟩ : ByteArray) = Q := ⟨_, rfl⟩
      have hPd : P.data.toList = encW A.data.toList := by rw [← hP]
      have hQd : Q.data.toList = encW t.data.toList := by rw [← hQ]
      have hPs : P.size ≤ 4000 := by
        have e : P.size = P.data.toList.length := rfl
        rw [e, hPd]
        omega
      have hQs : Q.size ≤ 4000 := by
        have e : Q.size = Q.data.toList.length := rfl
        rw [e, hQd]
        omega
      rw [hP] at D1
      rw [hQ] at D2
      have hX : (P ++ ⟨#[32]⟩ ++ Q).data.toList = encW (A ++ t).data.toList := by
        rw [partsW_data, partsW_data, partsW_data, hPd, hQd, hpa, List.append_assoc]
        rfl
      have hXs : (P ++ ⟨#[32]⟩ ++ Q).size ≤ 10000 := by
        rw [ByteArray.size_append, ByteArray.size_append]
        have : (⟨#[32]⟩ : ByteArray).size = 1 := rfl
        omega
      have hXe : (⟨(encW (A ++ t).data.toList).toArray⟩ : ByteArray) = P ++ ⟨#[32]⟩ ++ Q := ByteArray.ext (Array.ext' hX.symm)
      have hAt : (A ++ t).size ≤ 2000 := by rw [ByteArray.size_append]; omega
      have D3 : Hid (∀ W, Below w.heap.size w W → Calls Tryd.prog 8 #[.string (P ++ ⟨#[32]⟩ ++ Q)] W fun e w' => e = .returned (.tuple #[.string (A ++ t), .int .i64 0]) ∧ Below W.heap.size W w') := Lib.hid fun W hW => by
        have := wdec_any (P ++ ⟨#[32]⟩ ++ Q) m W (by omega) (bound_belowW hm hW)
        rw [hX, dec_encW] at this
        exact this
      have D4 : Hid (∀ W, Below w.heap.size w W → Calls Tryd.prog 10 #[.string (A ++ t)] W fun e w' => e = .returned (.string (P ++ ⟨#[32]⟩ ++ Q)) ∧ Below W.heap.size W w') := Lib.hid fun W hW => by
        have := wenc_any (A ++ t) m W (by omega) (bound_belowW hm hW)
        rw [hXe] at this
        exact this
      clear hp hq hAd hAs hA hn hpa hla hlt hP hQ hPd hQd hX hXs hXe hAt
      go_wp2_with fail
      rw [HA.out]
      refine (C1.out _ hw1).mono ?_
      rintro e w2 ⟨rfl, rfl⟩
      go_wp2_with fail
      refine (C2.out _ hw1).mono ?_
      rintro e w2 ⟨rfl, rfl⟩
      go_wp2_with fail
      refine (D1.out _ hw1).mono ?_
      rintro e w3 ⟨rfl, hb⟩
      have b3 := hw1.trans (hb.mono hw1.size)
      clear hb
      go_wp2_with fail
      refine (D2.out _ b3).mono ?_
      rintro e w4 ⟨rfl, hb⟩
      have b4 := b3.trans (hb.mono b3.size)
      clear hb
      go_wp2_with fail
      refine (D3.out _ b4).mono ?_
      rintro e w5 ⟨rfl, hb⟩
      have b5 := b4.trans (hb.mono b4.size)
      clear hb
      go_wp2_with fail
      refine (D4.out _ b5).mono ?_
      rintro e w6 ⟨rfl, hb⟩
      have b6 := b5.trans (hb.mono b5.size)
      clear hb
      go_wp2_with fail
      refine (D1.out _ b6).mono ?_
      rintro e w7 ⟨rfl, hb⟩
      have b7 := b6.trans (hb.mono b6.size)
      clear hb
      go_wp2_with fail
      refine (D2.out _ b7).mono ?_
      rintro e w8 ⟨rfl, hb⟩
      have b8 := b7.trans (hb.mono b7.size)
      clear hb
      go_wp2
      go_ret
      exact ⟨rfl, b8⟩
end Go.Proofs.YtjkcjbbkplonkaaDoor
