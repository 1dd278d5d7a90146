/-
  QuotedPlain returns true, for any text: the walk.
-/
import Derived.Test.YtfbnifioifghlaaDoorAwake4
import Derived.Test.YtfbnifioifghlaaDoorQ4L
namespace Go.Proofs.YtfbnifioifghlaaDoor
open Go.RowKit

/-- How far a text was counted. -/
def CountedTo (s : ByteArray) (i n : Nat) : Prop :=
  n ≤ 3 * i ∧ costQ s.data.toList = n + costQ (s.data.toList.drop i) ∧ ∀ c ∈ s.data.toList.take i, c ≠ 13
theorem counted_end {s : ByteArray} {n : Nat} (h : CountedTo s s.size n) : costQ s.data.toList = n ∧ ∀ c ∈ s.data.toList, c ≠ 13 := by
  obtain ⟨_, h2, h3⟩ := h
  have hl : s.data.toList.length = s.size := rfl
  rw [List.drop_eq_nil_of_le (by omega)] at h2
  rw [List.take_of_length_le (by omega)] at h3
  exact ⟨h2, h3⟩
theorem counted_next {s : ByteArray} {i n : Nat} (h : CountedTo s i n) (hi : i < s.size) (hc : s[i] ≠ 13) :
    CountedTo s (i + 1) (n + if plainQ s[i] (decide (i + 1 = s.size)) then 1 else 3) := by
  obtain ⟨h1, h2, h3⟩ := h
  have hl : s.data.toList.length = s.size := rfl
  have hg : s.data.toList[i]'(by omega) = s[i] := rfl
  have hd : s.data.toList.drop i = s[i] :: s.data.toList.drop (i + 1) := by
    rw [List.drop_eq_getElem_cons (by omega), hg]
  have he : decide (s.data.toList.drop (i + 1) = []) = decide (i + 1 = s.size) := by
    rw [decide_eq_decide, List.drop_eq_nil_iff]
    omega
  rw [hd, costQ, he] at h2
  refine ⟨by split <;> omega, by omega, fun c m => ?_⟩
  rw [List.take_succ_eq_append_getElem (by omega), hg, List.mem_append, List.mem_singleton] at m
  rcases m with m | rfl
  · exact h3 c m
  · exact hc

theorem plain_iff {c : UInt8} {P : Prop} [Decidable P] : plainQ c (decide P) = true ↔ (33 ≤ c.toNat ∧ c.toNat ≤ 126 ∧ c.toNat ≠ 61) ∨ ((c.toNat = 32 ∨ c.toNat = 9) ∧ ¬ P) := by
  have h61 : c = 61 ↔ c.toNat = 61 := UInt8.toNat_inj.symm
  have h32 : c = 32 ↔ c.toNat = 32 := UInt8.toNat_inj.symm
  have h9 : c = 9 ↔ c.toNat = 9 := UInt8.toNat_inj.symm
  unfold plainQ
  simp only [Bool.or_eq_true, Bool.and_eq_true, decide_eq_true_eq, Bool.not_eq_true', decide_eq_false_iff_not, ne_eq, h61, h32, h9, and_assoc]

set_option maxRecDepth 100000 in
set_option maxHeartbeats 4000000 in
theorem qplain_walk (s : ByteArray) (m : Int) (w : World) (hm : w.cell? ⟨0, 0, none⟩ = some (.int .i64 m)) (hs : s.size ≤ maxLen) :
    Calls Tryd.prog 7 #[.string s] w fun e w' => e = .returned (.bool true) ∧ Below w.heap.size w w' := by
  have haw := awake4_any m w hm
  unfold maxLen at hs
  go_enter Tryd.func7, Tryd.ntmps7
  go_wp2_with fail
  refine haw.mono ?_
  rintro e w1 ⟨rfl, hw1⟩
  clear haw
  by_cases h1 : 24 < s.size
  · go_wp2
    go_ret
    exact ⟨rfl, hw1⟩
  have hel := encQ_len s.data.toList
  rw [show s.data.toList.length = s.size from rfl] at hel
  obtain ⟨T, hT⟩ : ∃ T : ByteArray, (⟨(encQ s.data.toList).toArray⟩ : ByteArray) = T := ⟨_, rfl⟩
  have hTd : T.data.toList = encQ s.data.toList := by rw [← hT]
  have hTs : T.size ≤ 200 := by
    have : T.size = (encQ s.data.toList).length := by rw [← hT]; rfl
    omega
  have C1 : Hid (∀ W, Below w.heap.size w W → Calls Tryd.prog 12 #[.string s] W fun e w' => e = .returned (.string T) ∧ Below W.heap.size W w') := Lib.hid fun W hW => by
    have := q4enc_any s m W (by omega) (bound_below hm hW)
    rw [hT] at this
    exact this
  have Fin : Hid (∀ n : Nat, CountedTo s s.size n → T.size = n ∧ s.size ≤ n ∧ (n = s.size → T = s)) := Lib.hid fun n h => by
    obtain ⟨e1, e2⟩ := counted_end h
    have hl : s.data.toList.length = s.size := rfl
    have e3 := enc_plain e2 (by omega)
    have e4 : T.size = (encQ s.data.toList).length := by rw [← hT]; rfl
    have e5 := cost_ge s.data.toList
    refine ⟨by rw [e4, e3, cost_signs]; exact e1, by omega, fun e6 => ByteArray.ext (Array.ext' ?_)⟩
    rw [hTd, e3]
    exact cost_eq _ (by omega)
  have Start : Hid (CountedTo s 0 0) := Lib.hid ⟨by omega, by rw [List.drop_zero, Nat.zero_add], by simp⟩
  clear hT hTd hel
  go_wp2_with fail
  go_loop [3, 4, 5] (fun nv iv _ => ∃ (n i : Nat), i ≤ s.size ∧ iv = .int .i64 i ∧ nv = .int .i64 n ∧ Hid (CountedTo s i n)) (fun _ iv _ => s.size - (intOf iv).toNat)
  case atStart => exact ⟨0, 0, by omega, rfl, rfl, Start⟩
  case round =>
    obtain ⟨n, i, hi, rfl, rfl, hC⟩ := hrel
    have hn3 := hC.out.1
    by_cases hlt : i < s.size
    · have Nx : Hid (s[i] ≠ 13 → CountedTo s (i + 1) (n + if plainQ s[i] (decide (i + 1 = s.size)) then 1 else 3)) := Lib.hid fun h => counted_next hC.out hlt h
      by_cases c13 : s[i].toNat = 13
      · have k13 : ((s[i].toNat : Int) == 13) = true := by rw [c13]; rfl
        go_wp2
        go_ret
        exact ⟨rfl, hw1⟩
      have k13 : ((s[i].toNat : Int) == 13) = false := by rw [beq_eq_false_iff_ne]; omega
      have n13 : s[i] ≠ 13 := fun h => c13 (by rw [h]; rfl)
      have N := Lib.hid (Nx.out n13)
      clear Nx n13
      by_cases c10 : s[i].toNat = 10
      · have k10 : ((s[i].toNat : Int) == 10) = true := by rw [c10]; rfl
        go_wp2
        go_ret
        exact ⟨rfl, hw1⟩
      have k10 : ((s[i].toNat : Int) == 10) = false := by rw [beq_eq_false_iff_ne]; omega
      have P1 : Hid (plainQ s[i] (decide (i + 1 = s.size)) = true → CountedTo s (i + 1) (n + 1)) := Lib.hid fun h => by
        have := N.out
        rw [h] at this
        exact this
      have P3 : Hid (plainQ s[i] (decide (i + 1 = s.size)) = false → CountedTo s (i + 1) (n + 3)) := Lib.hid fun h => by
        have := N.out
        rw [h] at this
        exact this
      clear N
      by_cases ca : 33 ≤ s[i].toNat ∧ s[i].toNat ≤ 126
      · obtain ⟨ca1, ca2⟩ := ca
        by_cases c61 : s[i].toNat = 61
        · have k61 : ((s[i].toNat : Int) != 61) = false := by rw [c61]; rfl
          have k32 : ((s[i].toNat : Int) == 32) = false := by rw [c61]; rfl
          have k9 : ((s[i].toNat : Int) == 9) = false := by rw [c61]; rfl
          go_wp2
          exact ⟨⟨n + 3, i + 1, by omega, by go_num, by go_num, Lib.hid (P3.out (Bool.eq_false_iff.mpr fun h => by have := plain_iff.mp h; omega))⟩, by simp [intOf]; omega⟩
        · have k61 : ((s[i].toNat : Int) != 61) = true := by rw [bne_iff_ne]; omega
          go_wp2
          exact ⟨⟨n + 1, i + 1, by omega, by go_num, by go_num, Lib.hid (P1.out (plain_iff.mpr (by omega)))⟩, by simp [intOf]; omega⟩
      · have hno : ¬ (33 ≤ s[i].toNat) ∨ ¬ (s[i].toNat ≤ 126) := by omega
        by_cases c32 : s[i].toNat = 32
        · have k32 : ((s[i].toNat : Int) == 32) = true := by rw [c32]; rfl
          by_cases hl : i + 1 < s.size
          · go_wp2
            exact ⟨⟨n + 1, i + 1, by omega, by go_num, by go_num, Lib.hid (P1.out (plain_iff.mpr (by omega)))⟩, by simp [intOf]; omega⟩
          · go_wp2
            exact ⟨⟨n + 3, i + 1, by omega, by go_num, by go_num, Lib.hid (P3.out (Bool.eq_false_iff.mpr fun h => by have := plain_iff.mp h; omega))⟩, by simp [intOf]; omega⟩
        have k32 : ((s[i].toNat : Int) == 32) = false := by rw [beq_eq_false_iff_ne]; omega
        by_cases c9 : s[i].toNat = 9
        · have k9 : ((s[i].toNat : Int) == 9) = true := by rw [c9]; rfl
          by_cases hl : i + 1 < s.size
          · go_wp2
            exact ⟨⟨n + 1, i + 1, by omega, by go_num, by go_num, Lib.hid (P1.out (plain_iff.mpr (by omega)))⟩, by simp [intOf]; omega⟩
          · go_wp2
            exact ⟨⟨n + 3, i + 1, by omega, by go_num, by go_num, Lib.hid (P3.out (Bool.eq_false_iff.mpr fun h => by have := plain_iff.mp h; omega))⟩, by simp [intOf]; omega⟩
        have k9 : ((s[i].toNat : Int) == 9) = false := by rw [beq_eq_false_iff_ne]; omega
        by_cases ca1 : 33 ≤ s[i].toNat
        · have ca2 : ¬ s[i].toNat ≤ 126 := by omega
          clear hno
          go_wp2
          exact ⟨⟨n + 3, i + 1, by omega, by go_num, by go_num, Lib.hid (P3.out (Bool.eq_false_iff.mpr fun h => by have := plain_iff.mp h; omega))⟩, by simp [intOf]; omega⟩
        · clear hno
          go_wp2
          exact ⟨⟨n + 3, i + 1, by omega, by go_num, by go_num, Lib.hid (P3.out (Bool.eq_false_iff.mpr fun h => by have := plain_iff.mp h; omega))⟩, by simp [intOf]; omega⟩
    · have hii : i = s.size := by omega
      clear hlt
      subst hii
      obtain ⟨f1, f2, f3⟩ := Fin.out n hC.out
      have f4 := Lib.hid f3
      clear f3 Fin hC Start
      go_wp2_with fail
      refine (C1.out _ hw1).mono ?_
      rintro e w2 ⟨rfl, hb⟩
      have b2 := hw1.trans (hb.mono hw1.size)
      clear hb
      by_cases hq : n = s.size
      · have f5 := f4.out hq
        clear f4 f1 f2
        subst hq
        subst f5
        go_wp2
        go_ret
        exact ⟨rfl, b2⟩
      · have hq2 : s.size < n := by omega
        go_wp2
        go_ret
        exact ⟨rfl, b2⟩
end Go.Proofs.YtfbnifioifghlaaDoor
