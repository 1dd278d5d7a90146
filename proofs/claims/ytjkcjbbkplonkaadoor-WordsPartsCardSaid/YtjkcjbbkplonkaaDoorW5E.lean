/-
  What words.Encode comes to: told by the plain function.
-/
import Derived.Test.YtjkcjbbkplonkaaDoorW5P
import Derived.Test.YtjkcjbbkplonkaaDoorE64
import Derived.Test.YtjkcjbbkplonkaaDoorKept
namespace Go.Proofs.YtjkcjbbkplonkaaDoor
open Go.RowKit

set_option maxRecDepth 100000 in
set_option maxHeartbeats 4000000 in
theorem wenc_any (s : ByteArray) (m : Int) (w : World) (hs : s.size ≤ 1000000) (hm : w.cell? ⟨0, 0, none⟩ = some (.int .i64 m)) :
    Calls Tryd.prog 10 #[.string s] w fun e w' => e = .returned (.string ⟨(encW s.data.toList).toArray⟩) ∧ Below w.heap.size w w' := by
  have hl : s.data.toList.length = s.size := rfl
  have hpl := wplain_any s m w hs hm
  cases hp : plainW s.data.toList with
  | true =>
    have he : (⟨(encW s.data.toList).toArray⟩ : ByteArray) = s := by unfold encW; rw [if_pos hp]
    rw [he]
    rw [hp] at hpl
    clear he hp hl
    go_enter Tryd.func10, Tryd.ntmps10
    go_wp2_with (go_at_call 12; refine hpl.mono ?_; rintro e w1 ⟨rfl, rfl⟩)
    go_ret
    exact ⟨rfl, Below.refl _ _⟩
  | false =>
    have hne := plainW_ne hp
    have h0 : 0 < s.size := by
      have := List.length_pos_iff.2 hne
      omega
    have he : (⟨(encW s.data.toList).toArray⟩ : ByteArray) = ⟨(wordsW s.data.toList).toArray⟩ := by unfold encW; rw [hp, if_neg (by simp)]
    have hbf := Lib.fresh_isBuilder 36 5 w
    have hbw := (Below.refl w.heap.size w).alloc (Nat.le_refl _) (.cells #[.pointer none, .slice none 0 0] 36)
    rw [he]
    rw [hp] at hpl
    obtain ⟨R, hR0, hR1⟩ : ∃ R : Nat, s.size ≤ 45 * R ∧ 45 * R < s.size + 45 := ⟨(s.size + 44) / 45, by omega, by omega⟩
    have Hl := Lib.hid hl
    have HB : Hid (Lib.IsBuilder 36 5 w.heap.size w.heap.size (Lib.byteCells (soFarW s.data.toList 0)) (w.alloc (.cells #[.pointer none, .slice none 0 0] 36))) := Lib.hid hbf
    clear he hp hl hne hbf
    go_enter Tryd.func10, Tryd.ntmps10
    go_wp2_with (go_at_call 12; refine hpl.mono ?_; rintro e w1 ⟨rfl, rfl⟩)
    clear hpl
    go_loopw [4, 5] (fun bv iv wr => ∃ (k p : Nat) (Y : ByteArray), k ≤ R ∧ p = 45 * k ∧ iv = .int .i64 p ∧ bv = .string Y ∧ Y.data.toList = betwW k ∧ Lib.IsBuilder 36 5 w.heap.size w.heap.size (Lib.byteCells (soFarW s.data.toList k)) wr ∧ Below w.heap.size w wr) (fun _ iv _ => s.size + 45 - (intOf iv).toNat)
    case atStart => exact ⟨0, 0, ⟨#[]⟩, by omega, rfl, rfl, rfl, rfl, HB.out, hbw⟩
    case round =>
      obtain ⟨k, p, Y, hk, hpk, rfl, rfl, hY, hbd, hbr⟩ := hrel
      have hbz := hbr.size
      have hsl := soFar_len s.data.toList k
      have hYs : Y.size = (betwW k).length := by rw [← hY]; rfl
      have hY1 : Y.size ≤ 1 := by rw [hYs]; unfold betwW; split <;> simp
      rw [Hl.out] at hsl
      by_cases hlt : p < s.size
      · have hst := soFar_step s.data.toList k (by rw [Hl.out]; omega)
        obtain ⟨X, hX⟩ : ∃ X : ByteArray, s.extract p (min ((p : Int) + 45) s.size).toNat = X := ⟨_, rfl⟩
        have hXd : X.data.toList = (s.data.toList.drop (45 * k)).take 45 := by
          rw [← hX, piece_data, hpk]
          have e : (min (((45 * k : Nat) : Int) + 45) s.size).toNat - 45 * k = min 45 (s.size - 45 * k) := by omega
          rw [e]
          have := Hl.out
          rcases (by omega : 45 ≤ s.size - 45 * k ∨ s.size - 45 * k < 45) with h | h
          · rw [show min 45 (s.size - 45 * k) = 45 by omega]
          · rw [List.take_of_length_le (by rw [List.length_drop]; omega), List.take_of_length_le (by rw [List.length_drop]; omega)]
        have hXs : X.size ≤ 45 := by
          have e : X.size = X.data.toList.length := rfl
          rw [e, hXd, List.length_take]
          omega
        have hle := enc_len X.data.toList
        rw [show X.data.toList.length = X.size from rfl] at hle
        rw [← hXd, ← wordW_data, ← hY] at hst
        have hbl : (Lib.byteCells (soFarW s.data.toList k)).length = (soFarW s.data.toList k).length := Lib.byteCells_length _
        have b1 := bwrite_any w.heap.size w.heap.size _ Y wr hbd (by omega) hbz
        rw [show Lib.byteCells (soFarW s.data.toList k) ++ Lib.strCells Y = Lib.byteCells (soFarW s.data.toList k ++ Y.data.toList) by rw [Lib.byteCells_append]; rfl] at b1
        obtain ⟨T1, hT1⟩ : ∃ T1, soFarW s.data.toList k ++ Y.data.toList = T1 := ⟨_, rfl⟩
        have hT1l : T1.length ≤ 5000000 := by rw [← hT1, List.length_append]; show _ + Y.size ≤ _; omega
        rw [hT1] at b1
        have hb2 : ∀ W, Lib.BuilderAt 36 5 w.heap.size w.heap.size (.pointer (some ⟨w.heap.size, 0, none⟩)) (Lib.byteCells T1) W → w.heap.size ≤ W.heap.size → Calls Tryd.prog 16 #[.pointer (some ⟨w.heap.size, 0, none⟩), .string ⟨#[61, 63, 85, 84, 70, 45, 56, 63, 66, 63]⟩] W fun e w' => e = .returned (.tuple #[.int .i64 10, .nilIface]) ∧ (Lib.BuilderAt 36 5 w.heap.size w.heap.size (.pointer (some ⟨w.heap.size, 0, none⟩)) (Lib.byteCells (T1 ++ aheadW)) w' ∧ Below w.heap.size W w') := fun W hW hz => by
          have := bwrite_any w.heap.size w.heap.size (Lib.byteCells T1) ⟨#[61, 63, 85, 84, 70, 45, 56, 63, 66, 63]⟩ W (.inr hW) (by rw [Lib.byteCells_length]; show _ + 10 ≤ _; omega) hz
          rw [show Lib.byteCells T1 ++ Lib.strCells ⟨#[61, 63, 85, 84, 70, 45, 56, 63, 66, 63]⟩ = Lib.byteCells (T1 ++ aheadW) by rw [Lib.byteCells_append]; rfl] at this
          exact this
        obtain ⟨E, hE⟩ : ∃ E : ByteArray, (⟨(encB X.data.toList).toArray⟩ : ByteArray) = E := ⟨_, rfl⟩
        have hEd : E.data.toList = encB X.data.toList := by rw [← hE]
        have hEs : E.size ≤ 64 := by
          have e : E.size = E.data.toList.length := rfl
          rw [e, hEd, hle]
          omega
        have henc := fun W => enc_any X W (by omega)
        rw [hE] at henc
        have hb3 : ∀ W, Lib.BuilderAt 36 5 w.heap.size w.heap.size (.pointer (some ⟨w.heap.size, 0, none⟩)) (Lib.byteCells (T1 ++ aheadW)) W → w.heap.size ≤ W.heap.size → Calls Tryd.prog 16 #[.pointer (some ⟨w.heap.size, 0, none⟩), .string E] W fun e w' => e = .returned (.tuple #[.int .i64 E.size, .nilIface]) ∧ (Lib.BuilderAt 36 5 w.heap.size w.heap.size (.pointer (some ⟨w.heap.size, 0, none⟩)) (Lib.byteCells (T1 ++ aheadW ++ encB X.data.toList)) w' ∧ Below w.heap.size W w') := fun W hW hz => by
          have := bwrite_any w.heap.size w.heap.size (Lib.byteCells (T1 ++ aheadW)) E W (.inr hW) (by rw [Lib.byteCells_length, List.length_append]; show _ + 10 + _ ≤ _; omega) hz
          rw [show Lib.byteCells (T1 ++ aheadW) ++ Lib.strCells E = Lib.byteCells (T1 ++ aheadW ++ encB X.data.toList) by rw [← hEd, Lib.byteCells_append (T1 ++ aheadW)]; rfl] at this
          exact this
        have hT2l : (T1 ++ aheadW ++ encB X.data.toList).length ≤ 6000000 := by
          rw [List.length_append, List.length_append, hle]
          show _ + 10 + _ ≤ _
          omega
        have hst2 : soFarW s.data.toList (k + 1) = T1 ++ aheadW ++ encB X.data.toList ++ [63, 61] := by
          rw [hst, hT1]
          simp only [List.append_assoc]
        have hb4 : ∀ W, Lib.BuilderAt 36 5 w.heap.size w.heap.size (.pointer (some ⟨w.heap.size, 0, none⟩)) (Lib.byteCells (T1 ++ aheadW ++ encB X.data.toList)) W → w.heap.size ≤ W.heap.size → Calls Tryd.prog 16 #[.pointer (some ⟨w.heap.size, 0, none⟩), .string ⟨#[63, 61]⟩] W fun e w' => e = .returned (.tuple #[.int .i64 2, .nilIface]) ∧ (Lib.BuilderAt 36 5 w.heap.size w.heap.size (.pointer (some ⟨w.heap.size, 0, none⟩)) (Lib.byteCells (soFarW s.data.toList (k + 1))) w' ∧ Below w.heap.size W w') := fun W hW hz => by
          have := bwrite_any w.heap.size w.heap.size (Lib.byteCells (T1 ++ aheadW ++ encB X.data.toList)) ⟨#[63, 61]⟩ W (.inr hW) (by rw [Lib.byteCells_length]; show _ + 2 ≤ _; omega) hz
          rw [show Lib.byteCells (T1 ++ aheadW ++ encB X.data.toList) ++ Lib.strCells ⟨#[63, 61]⟩ = Lib.byteCells (soFarW s.data.toList (k + 1)) by rw [hst2, Lib.byteCells_append (T1 ++ aheadW ++ _)]; rfl] at this
          exact this
        have hk1 : k + 1 ≤ R := by omega
        have hp1 : p + 45 = 45 * (k + 1) := by omega
        have Hp1 := Lib.hid hp1
        have Hk1 := Lib.hid hk1
        have HX := Lib.hid hX
        have hps : (p : Int) + 45 ≤ 2000000 := by omega
        have h2 := Lib.hid hb2
        have h3 := Lib.hid hb3
        have h4 := Lib.hid hb4
        have h5 := Lib.hid henc
        clear hsl hYs hY hst hXd hle hbl hT1 hT1l hb2 hE hEd hEs henc hb3 hT2l hst2 hb4 hk1 hp1 hX hbd hpk
        go_wp2_with (go_at_call 16; refine b1.mono ?_)
        rintro e w2 ⟨rfl, g2, l2⟩
        clear b1
        have z2 := l2.size
        go_wp2_with fail
        refine (h2.out _ g2 (by omega)).mono ?_
        rintro e w3 ⟨rfl, g3, l3⟩
        have l23 := l2.trans l3
        have z3 := l23.size
        clear g2 l2 z2 l3
        go_wp2_with fail
        rw [HX.out]
        refine (h5.out _).mono ?_
        rintro e w4 ⟨rfl, l4⟩
        have g4 := builder_below g3 l4
        have z4 := l4.size
        have l34 := l23.trans (l4.mono (show w.heap.size ≤ w3.heap.size by omega))
        clear g3 l23
        go_wp2_with fail
        refine (h3.out _ g4 (by omega)).mono ?_
        rintro e w5 ⟨rfl, g5, l5⟩
        have l45 := l34.trans l5
        have z5 := l45.size
        clear g4 l34 l5 l4 z4 z3
        go_wp2_with fail
        refine (h4.out _ g5 (by omega)).mono ?_
        rintro e w6 ⟨rfl, g6, l6⟩
        have l56 := hbr.trans (l45.trans l6)
        clear g5 l45 l6
        go_wp2
        exact ⟨⟨k + 1, p + 45, _, Hk1.out, Hp1.out, by go_num, rfl, rfl, .inr g6, l56⟩, by simp [intOf]; omega⟩
      · have hkR : k = R := by omega
        have hall : soFarW s.data.toList k = wordsW s.data.toList := by
          unfold soFarW
          rw [if_neg (by omega), List.take_of_length_le (by rw [Hl.out]; omega)]
        rw [hall] at hbd
        have hstr := Tryd.Builder_String_any w.heap.size w.heap.size (wordsW s.data.toList) wr hbd hbz
        clear hall hkR hpk hY hYs hbd hsl
        go_wp2_with (go_at_call 18; refine hstr.mono ?_)
        rintro e w2 ⟨rfl, hw2⟩
        go_wp2
        go_ret
        exact ⟨rfl, hbr.trans hw2⟩
end Go.Proofs.YtjkcjbbkplonkaaDoor
