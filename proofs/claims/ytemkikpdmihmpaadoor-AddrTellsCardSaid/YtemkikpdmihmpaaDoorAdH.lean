/-
  What addr's hearer, readQuoted and readWord come to.
-/
import Derived.Test.YtemkikpdmihmpaaDoorAdF
import Derived.Deep.RegionHeld3
namespace Go.Proofs.YtemkikpdmihmpaaDoor
open Go.RowKit

theorem ahearer_any (b : Nat) (w : World) : Calls Tryd.prog 90 #[.pointer (some ⟨b, 0, none⟩)] w fun e w' => e = .returned (.func (.func 92) #[] #[.pointer (some ⟨w.heap.size + 1, 0, none⟩), .pointer (some ⟨w.heap.size, 0, none⟩)]) ∧ w' = (w.alloc (.cells #[.pointer (some ⟨b, 0, none⟩)] 48)).alloc (.cells #[.bool false] 4) := by
  have hmf : ∀ (fn : Fn) (first cap : Array Value) (w : World), (Instr.makeFunc fn first cap).run Tryd.prog w = .ok (.func fn first cap) w := fun _ _ _ _ => rfl
  go_enter Tryd.func90, Tryd.ntmps90
  go_wp2
  go_ret
  exact ⟨rfl, rfl⟩
/-- A word and what stands behind it, or none. -/
def Told3 (o : Option (TextA × TextA)) (e : Ending) : Prop := match o with
  | none => ∃ X Y, e = .returned (.tuple #[.string X, .string Y, .bool false])
  | some x => e = .returned (.tuple #[.string (textQ x.1), .string (textQ x.2), .bool true])
theorem hear_stop {say : Bool} {c : UInt8} (h : hearGo say c = false) : hearAdd say c = [] := by
  cases say with
  | true => cases h
  | false =>
    have h2 : c = 34 := by simpa [hearGo] using h
    subst h2
    rfl

set_option maxRecDepth 100000 in
set_option maxHeartbeats 4000000 in
theorem ardq_any (s : ByteArray) (w : World) (hs : s.size ≤ 1000000) : Calls Tryd.prog 82 #[.string s] w fun e w' => Told3 (hearA false [] s.data.toList) e ∧ Below w.heap.size w w' := by
  obtain ⟨R, hR⟩ : ∃ R, hearA false [] s.data.toList = R := ⟨_, rfl⟩
  rw [hR]
  have hl : s.data.toList.length = s.size := rfl
  obtain ⟨w0, hw0⟩ : ∃ w0, w.alloc (.cells #[.pointer none, .slice none 0 0] 51) = w0 := ⟨_, rfl⟩
  have z0 : w0.heap.size = w.heap.size + 1 := by rw [← hw0]; simp
  have b0 : Below w.heap.size w w0 := by rw [← hw0]; exact (Below.refl _ _).alloc (Nat.le_refl _) _
  have hbd := Lib.fresh_isBuilder 51 5 w
  rw [hw0] at hbd
  have hhe := ahearer_any w.heap.size w0
  rw [z0] at hhe
  obtain ⟨w1, hw1⟩ : ∃ w1, (w0.alloc (.cells #[.pointer (some ⟨w.heap.size, 0, none⟩)] 48)).alloc (.cells #[.bool false] 4) = w1 := ⟨_, rfl⟩
  rw [hw1] at hhe
  have l1 : Below w0.heap.size w0 w1 := by rw [← hw1]; exact ((Below.refl _ _).alloc (Nat.le_refl _) _).alloc (by simp) _
  have xc : Boxed w1 (w.heap.size + 1) 48 (.pointer (some ⟨w.heap.size, 0, none⟩)) := by
    rw [← hw1, ← z0]
    exact (Boxed.new _ _ _).alloc _
  have xd : Boxed w1 (w.heap.size + 1 + 1) 4 (.bool false) := by
    rw [← hw1, ← z0]
    have := Boxed.new (w0.alloc (.cells #[.pointer (some ⟨w.heap.size, 0, none⟩)] 48)) 4 (.bool false)
    rw [World.size_alloc] at this
    exact this
  have H1 : Hid (HearP w.heap.size w.heap.size (w.heap.size + 1) (w.heap.size + 1 + 1) [] false w1) := Lib.hid ⟨isbuilder_below hbd l1, xc, xd, by omega, by have := l1.size; omega⟩
  have B1 := Lib.hid (b0.trans (l1.mono b0.size))
  have HR := Lib.hid hR
  clear hw1 l1 xc xd hbd b0 hR
  go_enter Tryd.func82, Tryd.ntmps82
  go_wp2_with (go_at_call 90; refine hhe.mono ?_; rintro e w2 ⟨rfl, h9⟩; obtain rfl := h9.symm)
  go_loopw [11] (fun iv wr => ∃ (i : Nat) (acc : TextA) (say : Bool), i ≤ s.size ∧ iv = .int .i64 i ∧ Hid (hearA say acc (s.data.toList.drop i) = R) ∧ Hid (HearP w.heap.size w.heap.size (w.heap.size + 1) (w.heap.size + 1 + 1) acc say wr) ∧ acc.length ≤ i ∧ Below w.heap.size w wr) (fun iv _ => s.size - (intOf iv).toNat)
  case atStart => exact ⟨0, [], false, by omega, rfl, Lib.hid (by rw [List.drop_zero]; exact HR.out), H1, Nat.le_refl _, B1.out⟩
  case round =>
    obtain ⟨i, acc, say, hi, rfl, hh, hp, hacc, hbr⟩ := hrel
    by_cases hlt : i < s.size
    · have hdr : s.data.toList.drop i = s[i] :: s.data.toList.drop (i + 1) := List.drop_eq_getElem_cons (by rw [hl]; exact hlt)
      have hh2 := hh.out
      obtain ⟨c, hc⟩ : ∃ c, s[i] = c := ⟨_, rfl⟩
      rw [hdr, hc, hear_step] at hh2
      have hcall := ahear1_any w.heap.size w.heap.size (w.heap.size + 1) (w.heap.size + 1 + 1) acc say c wr hp.out (by omega)
      cases hg : hearGo say c with
      | true =>
        rw [hg, if_pos rfl] at hh2
        rw [hg] at hcall
        have Hn := Lib.hid hh2
        have Hl : (acc ++ hearAdd say c).length ≤ i + 1 := by
          rw [List.length_append]
          unfold hearAdd
          split
          · simp; omega
          · simp; omega
        clear hh2 hh hdr hg H1 hp
        go_wp2_with (go_at_call 92; refine hcall.mono ?_; rintro e w3 ⟨rfl, hp3, hw3⟩)
        have hb3 := hbr.trans hw3
        have HP3 := Lib.hid hp3
        clear hcall hw3 hbr hp3
        go_roundw
        case rel => exact ⟨i + 1, _, _, by omega, by go_num, Hn, HP3, Hl, hb3⟩
        case measure => simp [intOf]; omega
      | false =>
        rw [hg, if_neg (by simp)] at hh2
        rw [hg, hear_stop hg, List.append_nil] at hcall
        have Hn := Lib.hid hh2
        have wr1 : IntKind.i64.wrap ((i : Int) + 1) = (i : Int) + 1 := by rw [IntWalk.i64_in _ (by omega)]
        have c1 : (i : Int) + 1 ≤ (s.size : Int) := by omega
        have c0 : (0 : Int) ≤ (i : Int) + 1 := by omega
        have e1 : s.extract (i + 1) s.size = textQ (s.data.toList.drop (i + 1)) := by
          rw [cut_text]
          congr 1
          rw [List.take_of_length_le (by rw [List.length_drop]; exact Nat.le_refl _)]
        obtain ⟨T, hT⟩ : ∃ T, textQ (s.data.toList.drop (i + 1)) = T := ⟨_, rfl⟩
        obtain ⟨A, hA⟩ : ∃ A, textQ acc = A := ⟨_, rfl⟩
        rw [hT] at e1
        have HT := Lib.hid hT
        have HA := Lib.hid hA
        clear hh2 hh hdr hg H1 hp hT
        go_wp2_with (go_at_call 92; refine hcall.mono ?_; rintro e w3 ⟨rfl, hp3, hw3⟩)
        have hb3 := hbr.trans hw3
        have hstr : Hid (∀ W, (Lib.IsBuilder 51 5 w.heap.size w.heap.size (Lib.byteCells acc) W ∧ Below w.heap.size w W) → Calls Tryd.prog 20 #[.pointer (some ⟨w.heap.size, 0, none⟩)] W fun e w' => e = .returned (.string A) ∧ Below w.heap.size w w') := Lib.hid fun W hW => by
          refine (Tryd.Builder_String_any w.heap.size w.heap.size acc W hW.1 hW.2.size).mono ?_
          rintro e w' ⟨he, hb⟩
          exact ⟨by rw [he, ← HA.out]; rfl, hW.2.trans hb⟩
        have hs0 : Hid (Lib.IsBuilder 51 5 w.heap.size w.heap.size (Lib.byteCells acc) w3 ∧ Below w.heap.size w w3) := Lib.hid ⟨hp3.bd, hb3⟩
        have hs1 : Hid (Lib.IsBuilder 51 5 w.heap.size w.heap.size (Lib.byteCells acc) w3.drew ∧ Below w.heap.size w w3.drew) := Lib.hid ⟨isbuilder_below hp3.bd (Below.refl _ _).drew, hb3.drew⟩
        have hr0 := Lib.hid hb3
        have hr1 := Lib.hid hb3.drew
        clear hcall hw3 hp3 hA hbr hb3
        go_wp2_with fail
        go_region_held3 (fun W => Below w.heap.size w W)
          (first | assumption | exact hr0.out | exact hr1.out | (trace_state; fail))
          (first
            | (go_at_call 20; (with_reducible refine (hstr.out _ ?_).mono ?_); (first | exact hs0.out | exact hs1.out); rintro e w4 ⟨rfl, hS11⟩))
        all_goals
          have hb4 := hS11
          have hR2 : R = some (acc, s.data.toList.drop (i + 1)) := Hn.out.symm
          subst hR2
          go_wp2
          go_ret3
          refine ⟨?_, hb4⟩
          show _ = _
          rw [HA.out, HT.out]
          rfl
    · obtain rfl : i = s.size := by omega
      have hh2 := hh.out
      rw [List.drop_of_length_le (by rw [hl]; exact Nat.le_refl _)] at hh2
      have hR2 : R = none := by
        rw [← hh2]
        cases say <;> rfl
      subst hR2
      clear hh2 hh H1 hp
      go_wp2
      go_ret3
      exact ⟨⟨_, _, rfl⟩, hbr⟩
theorem hear_size {s acc : TextA} {say : Bool} {w r : TextA} (h : hearA say acc s = some (w, r)) : w.length ≤ acc.length + s.length ∧ r.length < s.length := ⟨hear_word _ _ _ _ _ h, hear_len _ _ _ _ _ h⟩
theorem prefix_one (c : UInt8) (s : TextA) : Lib.hasPrefix s [c] = (cutA c s).isSome ∧ ∀ t, cutA c s = some t → Lib.trimPrefix s [c] = t := by
  cases s with
  | nil => exact ⟨rfl, fun t h => by cases h⟩
  | cons d r =>
    have hp : Lib.hasPrefix (d :: r) [c] = (c == d) := by simp [Lib.hasPrefix, List.isPrefixOf]
    rw [cutA_cons, hp]
    by_cases hd : d = c
    · subst hd
      rw [if_pos rfl]
      refine ⟨by simp, fun t h => ?_⟩
      cases h
      unfold Lib.trimPrefix
      rw [hp]
      simp
    · rw [if_neg hd]
      exact ⟨by rw [beq_eq_false_iff_ne.2 (fun e => hd e.symm)]; rfl, fun t h => by cases h⟩
/-- What strings.CutPrefix at one byte comes to. -/
theorem cutpre_one (s : ByteArray) (c : UInt8) (w : World) : Calls Tryd.prog 37 #[.string s, .string ⟨#[c]⟩] w fun e w' => (∃ R, e = .returned (.tuple #[.string R, .bool (cutA c s.data.toList).isSome]) ∧ ∀ t, cutA c s.data.toList = some t → R = textQ t) ∧ w' = w := by
  have hpre := Tryd.strings_CutPrefix s ⟨#[c]⟩ w
  obtain ⟨p1, p2⟩ := prefix_one c s.data.toList
  refine hpre.mono ?_
  rintro e w' ⟨rfl, h⟩
  refine ⟨⟨_, by rw [show (⟨#[c]⟩ : ByteArray).data.toList = [c] from rfl, p1], fun t ht => ?_⟩, h⟩
  rw [p2 t ht]
  rfl

set_option maxRecDepth 100000 in
set_option maxHeartbeats 4000000 in
theorem ardw_any (s : ByteArray) (w : World) (hs : s.size ≤ 1000000) : Calls Tryd.prog 67 #[.string s] w fun e w' => Told3 (wordA s.data.toList) e ∧ Below w.heap.size w w' := by
  have hpre := cutpre_one s 34 w
  have hl : s.data.toList.length = s.size := rfl
  cases hq : cutA 34 s.data.toList with
  | some t =>
    rw [hq] at hpre
    have e1 : wordA s.data.toList = hearA false [] t := by
      rw [cut_len hq, wordA]
      rfl
    rw [e1]
    obtain ⟨T, hT⟩ : ∃ T, textQ t = T := ⟨_, rfl⟩
    have hTs : T.size ≤ 1000000 := by
      have := congrArg List.length (cut_len hq)
      rw [List.length_cons] at this
      rw [← hT]
      show t.length ≤ _
      omega
    have hrd := fun W => ardq_any T W hTs
    rw [show T.data.toList = t by rw [← hT]; rfl] at hrd
    have hpre2 : Calls Tryd.prog 37 #[.string s, .string ⟨#[34]⟩] w fun e w' => e = .returned (.tuple #[.string T, .bool true]) ∧ w' = w := by
      refine hpre.mono ?_
      rintro e w' ⟨⟨R, rfl, h⟩, rfl⟩
      exact ⟨by rw [h t rfl, hT]; rfl, rfl⟩
    obtain ⟨O, hO⟩ : ∃ O, hearA false [] t = O := ⟨_, rfl⟩
    rw [hO]
    simp only [hO] at hrd
    clear hpre hT hO e1 hq
    go_enter Tryd.func67, Tryd.ntmps67
    go_wp2_with fail
    refine hpre2.mono ?_
    rintro e w1 ⟨rfl, h9⟩
    obtain rfl := h9.symm
    clear h9 hpre2
    cases O with
    | none =>
      have hrd2 : ∀ W, Calls Tryd.prog 82 #[.string T] W fun e w' => ∃ X Y, e = .returned (.tuple #[.string X, .string Y, .bool false]) ∧ Below W.heap.size W w' := fun W => (hrd W).mono fun e w' ⟨⟨X, Y, h⟩, hb⟩ => ⟨X, Y, h, hb⟩
      clear hrd
      go_wp2_with fail
      refine (hrd2 _).mono ?_
      rintro e w2 ⟨X, Y, rfl, hw2⟩
      go_wp2
      go_ret3
      exact ⟨⟨_, _, rfl⟩, hw2⟩
    | some x =>
      obtain ⟨X, hX⟩ : ∃ X, textQ x.1 = X := ⟨_, rfl⟩
      obtain ⟨Y, hY⟩ : ∃ Y, textQ x.2 = Y := ⟨_, rfl⟩
      have hrd2 : ∀ W, Calls Tryd.prog 82 #[.string T] W fun e w' => e = .returned (.tuple #[.string X, .string Y, .bool true]) ∧ Below W.heap.size W w' := fun W => (hrd W).mono fun e w' ⟨h, hb⟩ => ⟨by rw [← hX, ← hY]; exact h, hb⟩
      clear hrd
      go_wp2_with fail
      refine (hrd2 _).mono ?_
      rintro e w2 ⟨rfl, hw2⟩
      go_wp2
      go_ret3
      refine ⟨?_, hw2⟩
      show _ = _
      rw [hX, hY]
      rfl
  | none =>
    rw [hq] at hpre
    have hcut := fun W => acutrun_any 29 #[] enter_atom atomC s W (ask_atom W) (by omega)
    obtain ⟨X, hX⟩ : ∃ X, textQ (s.data.toList.takeWhile atomC) = X := ⟨_, rfl⟩
    obtain ⟨Y, hY⟩ : ∃ Y, textQ (s.data.toList.dropWhile atomC) = Y := ⟨_, rfl⟩
    simp only [hX, hY] at hcut
    have hXe : X.toList.isEmpty = (s.data.toList.takeWhile atomC).isEmpty := by rw [← hX, text_empty]
    have hno := cut_no_eq hq
    have hw : wordA s.data.toList = if (s.data.toList.takeWhile atomC).isEmpty = true then none else some (s.data.toList.takeWhile atomC, s.data.toList.dropWhile atomC) := by
      generalize s.data.toList = l at hno
      cases l with
      | nil => rfl
      | cons c r =>
        rw [wordA, if_neg (fun e => hno r (by rw [e]))]
        cases hc : atomC c with
        | true =>
          rw [if_pos rfl, List.takeWhile_cons, hc]
          rfl
        | false =>
          rw [if_neg (by simp), List.takeWhile_cons, hc]
          rfl
    rw [hw, ← hXe]
    have hpre2 : Calls Tryd.prog 37 #[.string s, .string ⟨#[34]⟩] w fun e w' => ∃ R, e = .returned (.tuple #[.string R, .bool false]) ∧ w' = w := by
      refine hpre.mono ?_
      rintro e w' ⟨⟨R, rfl, h⟩, rfl⟩
      exact ⟨R, rfl, rfl⟩
    have HX := Lib.hid hX
    have HY := Lib.hid hY
    clear hpre hw hno hq hXe hX hY
    cases hXe : X.toList.isEmpty with
    | true =>
      rw [if_pos rfl]
      go_enter Tryd.func67, Tryd.ntmps67
      go_wp2_with fail
      refine hpre2.mono ?_
      rintro e w1 ⟨R, rfl, h9⟩
      obtain rfl := h9.symm
      clear h9 hpre2
      go_wp2_with fail
      refine (hcut _).mono ?_
      rintro e w2 ⟨rfl, hw2⟩
      go_wp2
      go_ret3
      exact ⟨⟨_, _, rfl⟩, hw2⟩
    | false =>
      rw [if_neg (by simp)]
      go_enter Tryd.func67, Tryd.ntmps67
      go_wp2_with fail
      refine hpre2.mono ?_
      rintro e w1 ⟨R, rfl, h9⟩
      obtain rfl := h9.symm
      clear h9 hpre2
      go_wp2_with fail
      refine (hcut _).mono ?_
      rintro e w2 ⟨rfl, hw2⟩
      go_wp2
      go_ret3
      refine ⟨?_, hw2⟩
      show _ = _
      rw [HX.out, HY.out]
      rfl
end Go.Proofs.YtemkikpdmihmpaaDoor
