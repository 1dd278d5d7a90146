/-
  QuotedLines returns true, for any text: the walk.
-/
import Derived.Test.YtfbnifioifghlaaDoorAwake4
import Derived.Test.YtfbnifioifghlaaDoorQ4L
namespace Go.Proofs.YtfbnifioifghlaaDoor
open Go.RowKit

/-- How far a told text was looked at. -/
def LookedTo (T : ByteArray) (i n : Nat) : Prop :=
  n ≤ i ∧ ∃ p : UInt8, (∀ (_ : 0 < i) (h : i - 1 < T.size), p = T[i - 1]) ∧ scanQ n p (T.data.toList.drop i) = true
theorem looked_end {T : ByteArray} {n : Nat} (h : LookedTo T T.size n) : ∀ (_ : 0 < T.size) (h : T.size - 1 < T.size), T[T.size - 1] ≠ 32 ∧ T[T.size - 1] ≠ 9 := by
  obtain ⟨_, p, h2, h3⟩ := h
  intro h0 h1
  have hl : T.data.toList.length = T.size := rfl
  rw [List.drop_eq_nil_of_le (by omega), scan_nil, decide_eq_true_eq, h2 h0 h1] at h3
  exact h3
theorem looked_next {T : ByteArray} {i n : Nat} (h : LookedTo T i n) (hi : i < T.size) :
    (∃ h2 : i + 1 < T.size, T[i] = 13 ∧ T[i + 1] = 10 ∧ (∀ (_ : 0 < i) (h : i - 1 < T.size), T[i - 1] ≠ 32 ∧ T[i - 1] ≠ 9) ∧ LookedTo T (i + 2) 0) ∨
    (T[i] ≠ 13 ∧ n + 1 ≤ 76 ∧ ((32 ≤ T[i].toNat ∧ T[i].toNat ≤ 126) ∨ T[i].toNat = 9) ∧ LookedTo T (i + 1) (n + 1)) := by
  obtain ⟨h1, p, h2, h3⟩ := h
  have hl : T.data.toList.length = T.size := rfl
  have hd : T.data.toList.drop i = T[i] :: T.data.toList.drop (i + 1) := List.drop_eq_getElem_cons (by omega)
  by_cases he : i + 1 < T.size ∧ T[i] = 13
  · obtain ⟨h5, h6⟩ := he
    have hd2 : T.data.toList.drop (i + 1) = T[i + 1] :: T.data.toList.drop (i + 2) := List.drop_eq_getElem_cons (by omega)
    by_cases h7 : T[i + 1] = 10
    · left
      rw [hd, hd2, h6, h7, scan_end, Bool.and_eq_true, decide_eq_true_eq] at h3
      refine ⟨h5, h6, h7, fun g1 g2 => h2 g1 g2 ▸ h3.1, by omega, 10, fun _ _ => ?_, h3.2⟩
      exact h7.symm
    · exfalso
      rw [hd, hd2, h6] at h3
      simp [scanQ, h7] at h3
  · right
    have h6 : T[i] ≠ 13 := by
      intro h6
      rw [h6] at hd
      have h8 : T.data.toList.drop (i + 1) = [] := List.drop_eq_nil_of_le (by
        by_cases h5 : i + 1 < T.size
        · exact absurd ⟨h5, h6⟩ he
        · omega)
      rw [hd, h8] at h3
      simp [scanQ] at h3
    rw [hd, scan_byte h6] at h3
    simp only [Bool.and_eq_true, Bool.or_eq_true, decide_eq_true_eq] at h3
    obtain ⟨⟨g1, g2⟩, g3⟩ := h3
    refine ⟨h6, g1, g2.imp id (fun e => by rw [e]; rfl), by omega, T[i], fun _ _ => ?_, g3⟩
    rfl

set_option maxRecDepth 100000 in
set_option maxHeartbeats 4000000 in
theorem qlines_walk (s : ByteArray) (m : Int) (w : World) (hm : w.cell? ⟨0, 0, none⟩ = some (.int .i64 m)) (hs : s.size ≤ maxLen) :
    Calls Tryd.prog 5 #[.string s] w fun e w' => e = .returned (.bool true) ∧ Below w.heap.size w w' := by
  have haw := awake4_any m w hm
  unfold maxLen at hs
  go_enter Tryd.func5, Tryd.ntmps5
  go_wp2_with fail
  refine haw.mono ?_
  rintro e w1 ⟨rfl, hw1⟩
  clear haw
  by_cases h1 : 3000 < s.size
  · go_wp2
    go_ret
    exact ⟨rfl, hw1⟩
  have hel := encQ_len s.data.toList
  rw [show s.data.toList.length = s.size from rfl] at hel
  obtain ⟨T, hT⟩ : ∃ T : ByteArray, (⟨(encQ s.data.toList).toArray⟩ : ByteArray) = T := ⟨_, rfl⟩
  have hTd : T.data.toList = encQ s.data.toList := by rw [← hT]
  have hTs : T.size ≤ 18000 := by
    have : T.size = (encQ s.data.toList).length := by rw [← hT]; rfl
    omega
  have C1 : Hid (∀ W, Below w.heap.size w W → Calls Tryd.prog 12 #[.string s] W fun e w' => e = .returned (.string T) ∧ Below W.heap.size W w') := Lib.hid fun W hW => by
    have := q4enc_any s m W (by omega) (bound_below hm hW)
    rw [hT] at this
    exact this
  have Start : Hid (LookedTo T 0 0) := Lib.hid ⟨by omega, 10, fun h => absurd h (by omega), by rw [List.drop_zero, hTd]; exact scan_enc _⟩
  clear hT hTd hel
  go_wp2_with fail
  refine (C1.out _ hw1).mono ?_
  rintro e w2 ⟨rfl, hb⟩
  have b2 := hw1.trans (hb.mono hw1.size)
  clear hb C1
  go_wp2
  go_loop [4, 5] (fun nv iv => ∃ (n i : Nat), i ≤ T.size ∧ iv = .int .i64 i ∧ nv = .int .i64 n ∧ Hid (LookedTo T i n)) (fun _ iv => T.size - (intOf iv).toNat)
  case atStart => exact ⟨0, 0, by omega, rfl, rfl, Start⟩
  case round =>
    obtain ⟨n, i, hi, rfl, rfl, hC⟩ := hrel
    have hni := hC.out.1
    by_cases hlt : i < T.size
    · rcases looked_next hC.out hlt with ⟨h2, h13, h10, hb, hN⟩ | ⟨h13, hn, hr, hN⟩
      · have k13 : ((T[i].toNat : Int) == 13) = true := by rw [h13]; rfl
        have k10 : ((T[i + 1].toNat : Int) == 10) = true := by rw [h10]; rfl
        have N := Lib.hid hN
        clear hN h13 h10 hC Start
        by_cases h0 : 0 < i
        · have hil : i - 1 < T.size := by omega
          obtain ⟨hb1, hb2⟩ := hb h0 hil
          clear hb
          have k32 : (((T[i - 1]'hil).toNat : Int) == 32) = false := by
            rw [beq_eq_false_iff_ne]
            intro h
            exact hb1 (UInt8.toNat_inj.mp (by show _ = 32; omega))
          have k9 : (((T[i - 1]'hil).toNat : Int) == 9) = false := by
            rw [beq_eq_false_iff_ne]
            intro h
            exact hb2 (UInt8.toNat_inj.mp (by show _ = 9; omega))
          clear hb1 hb2
          go_wp2
          exact ⟨⟨0, i + 2, by omega, by go_num, rfl, N⟩, by simp [intOf]; omega⟩
        · clear hb
          go_wp2
          exact ⟨⟨0, i + 2, by omega, by go_num, rfl, N⟩, by simp [intOf]; omega⟩
      · have k13 : ((T[i].toNat : Int) == 13) = false := by
          rw [beq_eq_false_iff_ne]
          intro h
          exact h13 (UInt8.toNat_inj.mp (by show _ = 13; omega))
        have N := Lib.hid hN
        clear hN h13 hC Start
        rcases hr with ⟨r1, r2⟩ | r9
        · go_wp2
          exact ⟨⟨n + 1, i + 1, by omega, by go_num, by go_num, N⟩, by simp [intOf]; omega⟩
        · have k9 : ((T[i].toNat : Int) == 9) = true := by rw [r9]; rfl
          have r1 : ¬ 32 ≤ T[i].toNat := by omega
          clear r9
          go_wp2
          exact ⟨⟨n + 1, i + 1, by omega, by go_num, by go_num, N⟩, by simp [intOf]; omega⟩
    · have hii : i = T.size := by omega
      clear hlt
      subst hii
      have he := looked_end hC.out
      clear hC Start
      by_cases h0 : T.size = 0
      · clear he
        have kz : ((T.size : Int) == 0) = true := by rw [h0]; rfl
        clear h0
        go_wp2
        go_ret
        exact ⟨rfl, b2⟩
      · have kz : ((T.size : Int) == 0) = false := by rw [beq_eq_false_iff_ne]; omega
        have hil : T.size - 1 < T.size := by omega
        have hp : 0 < T.size := by omega
        obtain ⟨hb1, hb2⟩ := he hp hil
        clear he
        have k32 : (((T[T.size - 1]'hil).toNat : Int) != 32) = true := by
          rw [bne_iff_ne]
          intro h
          exact hb1 (UInt8.toNat_inj.mp (by show _ = 32; omega))
        have k9 : (((T[T.size - 1]'hil).toNat : Int) != 9) = true := by
          rw [bne_iff_ne]
          intro h
          exact hb2 (UInt8.toNat_inj.mp (by show _ = 9; omega))
        clear hb1 hb2
        go_wp2
        go_ret
        exact ⟨rfl, b2⟩
end Go.Proofs.YtfbnifioifghlaaDoor
