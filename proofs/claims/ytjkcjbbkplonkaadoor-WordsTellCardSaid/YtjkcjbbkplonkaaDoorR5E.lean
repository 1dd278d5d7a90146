/-
  The document's answer of layer 5, written in Go: a body's text: told by the plain function.
-/
import Derived.Test.YtjkcjbbkplonkaaDoorR5P
import Derived.Test.YtjkcjbbkplonkaaDoorR3E
namespace Go.Proofs.YtjkcjbbkplonkaaDoor
open Go.RowKit

theorem app5 (a b : ByteArray) : (a ++ b).data.toList = a.data.toList ++ b.data.toList := by simp
theorem piece5 (s : ByteArray) (i j : Nat) : (s.extract i j).data.toList = (s.data.toList.drop i).take (j - i) := by
  rw [Lib.extract_data]
/-- A piece of 45 bytes, or what is left. -/
theorem piece45 (s X : ByteArray) (p q k : Nat) (hp : p = 45 * k) (hq : q = min (p + 45) s.size) (hX : s.extract p q = X) : X.data.toList = (s.data.toList.drop (45 * k)).take 45 := by
  have hl : s.data.toList.length = s.size := rfl
  rw [← hX, piece5, hp]
  rcases (by omega : p + 45 ≤ s.size ∨ s.size < p + 45) with h | h
  · rw [show q - 45 * k = 45 by omega]
  · rw [List.take_of_length_le (by rw [List.length_drop]; omega), List.take_of_length_le (by rw [List.length_drop]; omega)]

set_option maxRecDepth 100000 in
set_option maxHeartbeats 4000000 in
theorem r5enc_any (s : ByteArray) (w : World) (hs : s.size ≤ 1000000) :
    Calls Tryd.prog 11 #[.string s] w fun e w' => e = .returned (.string ⟨(encW s.data.toList).toArray⟩) ∧ Below w.heap.size w w' := by
  have hl : s.data.toList.length = s.size := rfl
  have hpl := r5plain_any s w hs
  cases hp : plainW s.data.toList with
  | true =>
    have he : (⟨(encW s.data.toList).toArray⟩ : ByteArray) = s := by unfold encW; rw [if_pos hp]
    rw [he]
    rw [hp] at hpl
    clear he hp hl
    go_enter Tryd.func11, Tryd.ntmps11
    go_wp2_with (go_at_call 13; refine hpl.mono ?_; rintro e w1 ⟨rfl, rfl⟩)
    go_ret
    exact ⟨rfl, Below.refl _ _⟩
  | false =>
    have hne := plainW_ne hp
    have h0 : 0 < s.size := by
      have := List.length_pos_iff.2 hne
      omega
    have he : (⟨(encW s.data.toList).toArray⟩ : ByteArray) = ⟨(wordsW s.data.toList).toArray⟩ := by unfold encW; rw [hp, if_neg (by simp)]
    rw [he]
    rw [hp] at hpl
    obtain ⟨R, hR0, hR1⟩ : ∃ R : Nat, s.size ≤ 45 * R ∧ 45 * R < s.size + 45 := ⟨(s.size + 44) / 45, by omega, by omega⟩
    have Hl := Lib.hid hl
    clear he hp hl hne
    go_enter Tryd.func11, Tryd.ntmps11
    go_wp2_with (go_at_call 13; refine hpl.mono ?_; rintro e w1 ⟨rfl, rfl⟩)
    clear hpl
    go_loopw [3, 4, 5] (fun ov iv _ wr => ∃ (k p : Nat) (O : ByteArray), k ≤ R ∧ p = 45 * k ∧ iv = .int .i64 p ∧ ov = .string O ∧ O.data.toList = soFarW s.data.toList k ∧ Below w.heap.size w wr) (fun _ iv _ _ => s.size + 45 - (intOf iv).toNat)
    case atStart => exact ⟨0, 0, ⟨#[]⟩, by omega, rfl, rfl, rfl, rfl, Below.refl _ _⟩
    case round =>
      obtain ⟨k, p, O, hk, hpk, rfl, rfl, hO, hbr⟩ := hrel
      have hbz := hbr.size
      have hsl := soFar_len s.data.toList k
      rw [Hl.out, ← hO] at hsl
      have hOs : O.size ≤ 5000000 := by
        have e : O.size = O.data.toList.length := rfl
        omega
      clear hsl
      by_cases hlt : p < s.size
      · have hst := soFar_step s.data.toList k (by rw [Hl.out]; omega)
        obtain ⟨q, hq⟩ : ∃ q, q = min (p + 45) s.size := ⟨_, rfl⟩
        obtain ⟨X, hX⟩ : ∃ X : ByteArray, s.extract p q = X := ⟨_, rfl⟩
        have hXd := piece45 s X p q k hpk hq hX
        have hXs : X.size ≤ 45 := by
          have e : X.size = X.data.toList.length := rfl
          rw [e, hXd, List.length_take]
          omega
        rw [← hXd, ← hO] at hst
        have henc := fun W => r3enc_any X W (by omega)
        obtain ⟨E, hE⟩ : ∃ E : ByteArray, (⟨(encB X.data.toList).toArray⟩ : ByteArray) = E := ⟨_, rfl⟩
        rw [hE] at henc
        have hEd : E.data.toList = encB X.data.toList := by rw [← hE]
        have hEs : E.size ≤ 64 := by
          have e : E.size = E.data.toList.length := rfl
          rw [e, hEd, enc_len, show X.data.toList.length = X.size from rfl]
          omega
        have Henc := Lib.hid henc
        have Hst : Hid ((O ++ (if k = 0 then ⟨#[]⟩ else ⟨#[32]⟩) ++ ⟨#[61, 63, 85, 84, 70, 45, 56, 63, 66, 63]⟩ ++ E ++ ⟨#[63, 61]⟩ : ByteArray).data.toList = soFarW s.data.toList (k + 1)) := Lib.hid (by
          rw [app5, app5, app5, app5, hEd, hst, ← wordW_data]
          unfold betwW
          split <;> simp [aheadW])
        have hp1 : p + 45 = 45 * (k + 1) := by omega
        have Hp1 := Lib.hid hp1
        have hk1 : k + 1 ≤ R := by omega
        clear hst hXd henc hE hEd hO hp1
        have HX := Lib.hid hX
        clear hX
        by_cases hov : s.size < p + 45
        · obtain rfl : q = s.size := by omega
          by_cases hk0 : k = 0
          · have hz : ¬ (0 : Int) < p := by omega
            rw [if_pos hk0] at Hst
            clear hk0 hpk hq
            go_wp2_with fail
            rw [HX.out]
            refine (Henc.out _).mono ?_
            rintro e w2 ⟨rfl, l2⟩
            have l3 := hbr.trans (l2.mono hbz)
            clear l2 Henc
            go_wp2
            exact ⟨⟨k + 1, p + 45, _, hk1, Hp1.out, by go_num, rfl, by first | exact Hst.out | (rw [← Hst.out]; simp), l3⟩, by simp [intOf]; omega⟩
          · have hz : (0 : Int) < p := by omega
            rw [if_neg hk0] at Hst
            clear hk0 hpk hq
            go_wp2_with fail
            rw [HX.out]
            refine (Henc.out _).mono ?_
            rintro e w2 ⟨rfl, l2⟩
            have l3 := hbr.trans (l2.mono hbz)
            clear l2 Henc
            go_wp2
            exact ⟨⟨k + 1, p + 45, _, hk1, Hp1.out, by go_num, rfl, by first | exact Hst.out | (rw [← Hst.out]; simp), l3⟩, by simp [intOf]; omega⟩
        · obtain rfl : q = p + 45 := by omega
          by_cases hk0 : k = 0
          · have hz : ¬ (0 : Int) < p := by omega
            rw [if_pos hk0] at Hst
            clear hk0 hpk hq
            go_wp2_with fail
            rw [HX.out]
            refine (Henc.out _).mono ?_
            rintro e w2 ⟨rfl, l2⟩
            have l3 := hbr.trans (l2.mono hbz)
            clear l2 Henc
            go_wp2
            exact ⟨⟨k + 1, p + 45, _, hk1, Hp1.out, by go_num, rfl, by first | exact Hst.out | (rw [← Hst.out]; simp), l3⟩, by simp [intOf]; omega⟩
          · have hz : (0 : Int) < p := by omega
            rw [if_neg hk0] at Hst
            clear hk0 hpk hq
            go_wp2_with fail
            rw [HX.out]
            refine (Henc.out _).mono ?_
            rintro e w2 ⟨rfl, l2⟩
            have l3 := hbr.trans (l2.mono hbz)
            clear l2 Henc
            go_wp2
            exact ⟨⟨k + 1, p + 45, _, hk1, Hp1.out, by go_num, rfl, by first | exact Hst.out | (rw [← Hst.out]; simp), l3⟩, by simp [intOf]; omega⟩
      · have hkR : k = R := by omega
        have hall : O.data.toList = wordsW s.data.toList := by
          rw [hO]
          unfold soFarW
          rw [if_neg (by omega), List.take_of_length_le (by rw [Hl.out]; omega)]
        have hOe : (⟨(wordsW s.data.toList).toArray⟩ : ByteArray) = O := by rw [← hall]
        have HOe := Lib.hid hOe
        clear hall hkR hpk hO hOe
        go_wp2
        go_ret
        exact ⟨by rw [HOe.out]; rfl, hbr⟩
end Go.Proofs.YtjkcjbbkplonkaaDoor
