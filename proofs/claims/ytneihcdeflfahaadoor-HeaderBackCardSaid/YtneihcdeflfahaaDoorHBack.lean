/-
  HeaderBack: the walk.
-/
import Derived.Test.YtneihcdeflfahaaDoorH10D
import Derived.Test.YtneihcdeflfahaaDoorAwake10
import Derived.Test.YtneihcdeflfahaaDoorR10B
namespace Go.Proofs.YtneihcdeflfahaaDoor
open Go.RowKit

set_option maxRecDepth 100000 in
set_option maxHeartbeats 8000000 in
theorem hback_walk (v : Value) (l : List FieldH) (s more : ByteArray) (m : Int) (w : World) (hat : FieldsAt w w.heap.size v l) (hsm : SmallF maxLen l) (hm : w.cell? ⟨0, 0, none⟩ = some (.int .i64 m)) (hs : s.size ≤ maxLen) (hmore : more.size ≤ maxLen) :
    Calls Tryd.prog 4 #[v, .string s, .string more] w fun e w' => e = .returned (.bool true) ∧ Below w.heap.size w w' := by
  have haw := awake10_any m w hm
  have hfew : Hid (∀ W, Below w.heap.size w W → Calls Tryd.prog 10 #[v] W (FewPost l W)) := Lib.hid fun W hW => few10_any w.heap.size v l W (hat.below hW (Nat.le_refl _)) hW.size hsm
  have Hat := Lib.hid hat
  have Hm := Lib.hid hm
  unfold maxLen at hs hmore
  clear hsm hat hm
  go_enter Tryd.func4, Tryd.ntmps4
  go_wp2_with fail
  refine haw.mono ?_
  rintro e w1 ⟨rfl, hb1⟩
  clear haw
  go_wp2_with fail
  refine (hfew.out _ hb1).mono ?_
  rintro e w2 ⟨b, rfl, hfb, hw2⟩
  have hb2 := hb1.trans (hw2.mono hb1.size)
  clear hfew hw2 hb1
  cases b with
  | false =>
    go_wp2
    go_ret
    exact ⟨rfl, hb2⟩
  | true =>
    have hF : FewF l := hfb rfl
    have HF := Lib.hid hF
    clear hfb hF
    by_cases h8 : 8000 < s.size
    · go_wp2
      go_ret
      exact ⟨rfl, hb2⟩
    by_cases h2 : 2000 < more.size
    · go_wp2
      go_ret
      exact ⟨rfl, hb2⟩
    obtain ⟨T, hT⟩ : ∃ T, textQ (printH l).1 = T := ⟨_, rfl⟩
    obtain ⟨E, hE⟩ : ∃ E, (printH l).2 = E := ⟨_, rfl⟩
    have hTs : T.size ≤ 48002 := by
      rw [← hT]
      have := print_size (l := l)
      have := HF.out.size
      show (printH l).1.length ≤ _
      omega
    have hcat : ¬ 9223372036854775807 < T.size + more.size := by omega
    have hpr : Hid (∀ W, Below w.heap.size w W → Calls Tryd.prog 11 #[v] W fun e w' => e = .returned (.tuple #[.string T, .int .i64 E]) ∧ Below w.heap.size w w') := Lib.hid fun W hW => by
      refine (hprint_any w.heap.size v l W (Hat.out.below hW (Nat.le_refl _)) hW.size (fun f hf => by have := HF.out.small f hf; omega)).mono ?_
      rintro e w' ⟨rfl, hb⟩
      exact ⟨by rw [← hT, ← hE]; rfl, hW.trans (hb.mono hW.size)⟩
    have hpt : Hid (E = 0 → ∀ W, Below w.heap.size w W → Calls Tryd.prog 13 #[.string (T ++ more)] W fun e w' => ∃ v', e = .returned (.tuple #[v', .string more, .int .i64 0]) ∧ FieldsAt w' w'.heap.size v' l ∧ Below w.heap.size w w') := Lib.hid fun h0 W hW => by
      have hTm : (T ++ more).data.toList = (printH l).1 ++ more.data.toList := by
        rw [ByteArray.data_append, Array.toList_append, ← hT]
        rfl
      have hz : (T ++ more).size ≤ 1000000 := by
        have e1 : (T ++ more).size = (T ++ more).data.toList.length := rfl
        have e2 : T.size = (printH l).1.length := by rw [← hT]; rfl
        have e3 : more.data.toList.length = more.size := rfl
        rw [e1, hTm, List.length_append, e3]
        omega
      refine (hparse_any (T ++ more) m W hz (bound_abide Hm.out hW)).mono ?_
      rintro e w' ⟨v', rfl, hown, hb⟩
      rw [hTm, parse_back (by rw [hE]; exact h0)] at hown ⊢
      exact ⟨v', rfl, hown.at, hW.trans (hb.mono hW.size)⟩
    have hTn : Hid (E ≠ 0 → T = ⟨#[]⟩) := Lib.hid fun h => by
      rw [← hT, print_none (by rw [hE]; exact h)]
      rfl
    have hfl : Hid (∀ v' W, FieldsAt W W.heap.size v' l → Below w.heap.size w W → Calls Tryd.prog 21 #[v', v] W fun e w' => e = .returned (.bool true) ∧ Below w.heap.size w w') := Lib.hid fun v' W hv' hW => by
      refine (r10fields_any W.heap.size v' v l l W hv' ((Hat.out.below hW (Nat.le_refl _)).up hW.size) (Nat.le_refl _)).mono ?_
      rintro e w' ⟨rfl, hb⟩
      exact ⟨by rw [decide_eq_true rfl], hW.trans (hb.mono hW.size)⟩
    obtain ⟨x, hx⟩ : ∃ x, (parseH s.data.toList).1.1 = x := ⟨_, rfl⟩
    obtain ⟨r, hr⟩ : ∃ r, (parseH s.data.toList).1.2 = r := ⟨_, rfl⟩
    obtain ⟨c, hc⟩ : ∃ c, (parseH s.data.toList).2 = c := ⟨_, rfl⟩
    have hps : Calls Tryd.prog 13 #[.string s] w2 fun e w' => ∃ v', e = .returned (.tuple #[v', .string (textQ r), .int .i64 c]) ∧ FieldsAt w' w'.heap.size v' x ∧ Below w.heap.size w w' := by
      refine (hparse_any s m w2 (by omega) (bound_abide Hm.out hb2)).mono ?_
      rintro e w' ⟨v', rfl, hown, hb⟩
      rw [hx] at hown
      exact ⟨v', by rw [hr, hc], hown.at, hb2.trans (hb.mono hb2.size)⟩
    have hpx : Hid (c = 0 → sizeF x ≤ 8000) := Lib.hid fun h0 => by
      have : parseH s.data.toList = ((x, r), 0) := by rw [← hx, ← hr, ← h0, ← hc]
      have := parse_size this
      have e3 : s.data.toList.length = s.size := rfl
      omega
    clear hT hE hx hr hc
    go_wp2_with fail
    refine hps.mono ?_
    rintro e w3 ⟨v3, rfl, hat3, hb3⟩
    clear hps hb2
    by_cases hc0 : c = 0
    · subst hc0
      have hsz := hpx.out rfl
      obtain ⟨T2, hT2⟩ : ∃ T, textQ (printH x).1 = T := ⟨_, rfl⟩
      obtain ⟨E2, hE2⟩ : ∃ E, (printH x).2 = E := ⟨_, rfl⟩
      have hpr2 : Calls Tryd.prog 11 #[v3] w3 fun e w' => e = .returned (.tuple #[.string T2, .int .i64 E2]) ∧ Below w3.heap.size w3 w' := by
        refine (hprint_any w3.heap.size v3 x w3 hat3 (Nat.le_refl _) (fun f hf => by have := size_small hsz f hf; omega)).mono ?_
        rintro e w' ⟨rfl, hb⟩
        exact ⟨by rw [← hT2, ← hE2]; rfl, hb⟩
      have hpt2 : Hid (E2 = 0 → ∀ W, Below w.heap.size w W → Calls Tryd.prog 13 #[.string T2] W fun e w' => ∃ v', e = .returned (.tuple #[v', .string ⟨#[]⟩, .int .i64 0]) ∧ FieldsAt w' w'.heap.size v' x ∧ Below W.heap.size W w') := Lib.hid fun h0 W hW => by
        have hz : T2.size ≤ 1000000 := by
          rw [← hT2]
          have := print_size (l := x)
          show (printH x).1.length ≤ _
          omega
        have hTd : T2.data.toList = (printH x).1 := by rw [← hT2]; rfl
        refine (hparse_any T2 m W hz (bound_abide Hm.out hW)).mono ?_
        rintro e w' ⟨v', rfl, hown, hb⟩
        have hpb := parse_back (l := x) (by rw [hE2]; exact h0) []
        rw [List.append_nil] at hpb
        rw [hTd, hpb] at hown ⊢
        exact ⟨v', rfl, hown.at, hb⟩
      clear hT2 hE2 hpx
      go_wp2_with fail
      refine hpr2.mono ?_
      rintro e w4 ⟨rfl, hw4⟩
      have hb4 := hb3.trans (hw4.mono hb3.size)
      have hat4 := (hat3.below hw4 (Nat.le_refl _)).up hw4.size
      clear hpr2 hw4 hat3 hb3
      by_cases hE2 : E2 = 0
      · subst hE2
        have hpt3 := hpt2.out rfl w4 hb4
        clear hpt2
        go_wp2_with fail
        refine hpt3.mono ?_
        rintro e w5 ⟨v5, rfl, hat5, hw5⟩
        have hb5 := hb4.trans (hw5.mono hb4.size)
        have hff : Calls Tryd.prog 21 #[v3, v5] w5 fun e w' => e = .returned (.bool true) ∧ Below w5.heap.size w5 w' := by
          refine (r10fields_any w5.heap.size v3 v5 x x w5 ((hat4.below hw5 (Nat.le_refl _)).up hw5.size) hat5 (Nat.le_refl _)).mono ?_
          rintro e w' ⟨rfl, hb⟩
          exact ⟨by rw [decide_eq_true rfl], hb⟩
        clear hpt3 hw5 hat4 hat5 hb4
        go_wp2_with fail
        refine hff.mono ?_
        rintro e w6 ⟨rfl, hw6⟩
        have hb6 := hb5.trans (hw6.mono hb5.size)
        clear hff hw6 hb5
        go_wp2_with fail
        refine (hpr.out _ hb6).mono ?_
        rintro e w7 ⟨rfl, hb7⟩
        by_cases hE : E = 0
        · subst hE
          have hpt9 := hpt.out (by first | rfl | trivial)
          go_wp2_with fail
          refine (hpt9 w7 hb7).mono ?_
          rintro e w8 ⟨v8, rfl, hat8, hb8⟩
          have hf8 := hfl.out v8 w8 hat8 hb8
          go_wp2_with fail
          refine hf8.mono ?_
          rintro e w9 ⟨rfl, hb9⟩
          go_wp2
          go_ret
          exact ⟨rfl, hb9⟩
        · have hq : (E == 0) = false := beq_eq_false_iff_ne.2 hE
          have hTn := hTn.out hE
          subst hTn
          go_wp2
          go_ret
          exact ⟨rfl, hb7⟩
      · have hq2 : (E2 == 0) = false := beq_eq_false_iff_ne.2 hE2
        clear hpt2 hat4
        go_wp2_with fail
        refine (hpr.out _ hb4).mono ?_
        rintro e w7 ⟨rfl, hb7⟩
        by_cases hE : E = 0
        · subst hE
          have hpt9 := hpt.out (by first | rfl | trivial)
          go_wp2_with fail
          refine (hpt9 w7 hb7).mono ?_
          rintro e w8 ⟨v8, rfl, hat8, hb8⟩
          have hf8 := hfl.out v8 w8 hat8 hb8
          go_wp2_with fail
          refine hf8.mono ?_
          rintro e w9 ⟨rfl, hb9⟩
          go_wp2
          go_ret
          exact ⟨rfl, hb9⟩
        · have hq : (E == 0) = false := beq_eq_false_iff_ne.2 hE
          have hTn := hTn.out hE
          subst hTn
          go_wp2
          go_ret
          exact ⟨rfl, hb7⟩
    · have hq2 : (c == 0) = false := beq_eq_false_iff_ne.2 hc0
      clear hpx hat3
      go_wp2_with fail
      refine (hpr.out _ hb3).mono ?_
      rintro e w7 ⟨rfl, hb7⟩
      by_cases hE : E = 0
      · subst hE
        have hpt9 := hpt.out (by first | rfl | trivial)
        go_wp2_with fail
        refine (hpt9 w7 hb7).mono ?_
        rintro e w8 ⟨v8, rfl, hat8, hb8⟩
        have hf8 := hfl.out v8 w8 hat8 hb8
        go_wp2_with fail
        refine hf8.mono ?_
        rintro e w9 ⟨rfl, hb9⟩
        go_wp2
        go_ret
        exact ⟨rfl, hb9⟩
      · have hq : (E == 0) = false := beq_eq_false_iff_ne.2 hE
        have hTn := hTn.out hE
        subst hTn
        go_wp2
        go_ret
        exact ⟨rfl, hb7⟩
end Go.Proofs.YtneihcdeflfahaaDoor
