/-
  What addr.skip comes to.
-/
import Derived.Test.YtemkikpdmihmpaaDoorAdC
import Derived.Test.YtemkikpdmihmpaaDoorIany
namespace Go.Proofs.YtemkikpdmihmpaaDoor
open Go.RowKit

theorem iany_at (chars : TextA) : ∀ s : TextA, (Lib.indexAny s chars = -1 ∧ ∀ c ∈ s, chars.contains c = false) ∨ ∃ k : Nat, Lib.indexAny s chars = k ∧ ∃ h : k < s.length, chars.contains s[k] = true ∧ ∀ j (hj : j < s.length), j < k → chars.contains s[j] = false
  | [] => .inl ⟨rfl, fun c h => by cases h⟩
  | c :: s => by
    unfold Lib.indexAny
    cases hc : chars.contains c with
    | true => exact .inr ⟨0, rfl, by simp, hc, fun j _ h => by omega⟩
    | false =>
      rcases iany_at chars s with ⟨h1, h2⟩ | ⟨k, h1, h2, h3, h4⟩
      · left
        rw [h1]
        refine ⟨rfl, fun d hd => ?_⟩
        rcases List.mem_cons.1 hd with rfl | hd
        · exact hc
        · exact h2 d hd
      · right
        refine ⟨k + 1, ?_, by simpa using h2, h3, fun j hj hk => ?_⟩
        · rw [h1]
          have : ((k : Int) == -1) = false := by rw [beq_eq_false_iff_ne]; omega
          simp [this]
        · cases j with
          | zero => exact hc
          | succ j => exact h4 j (by simpa using hj) (by omega)
theorem brk_iff (c : UInt8) : [(40 : UInt8), 41].contains c = (c == 40 || c == 41) := by
  rw [List.contains_cons, List.contains_cons, List.contains_nil, Bool.or_false]
theorem cmt_none : ∀ s : TextA, (∀ c ∈ s, [(40 : UInt8), 41].contains c = false) → cmtA s = none
  | [], _ => rfl
  | c :: s, h => by
    have hc := h c (List.mem_cons_self ..)
    rw [brk_iff, Bool.or_eq_false_iff, beq_eq_false_iff_ne, beq_eq_false_iff_ne] at hc
    unfold cmtA
    rw [if_neg hc.2, if_neg hc.1]
    exact cmt_none s (fun d hd => h d (List.mem_cons_of_mem _ hd))
theorem cmt_at : ∀ (s : TextA) (k : Nat) (h : k < s.length), (∀ j (hj : j < s.length), j < k → [(40 : UInt8), 41].contains s[j] = false) → [(40 : UInt8), 41].contains s[k] = true → cmtA s = if s[k] = 40 then none else some (s.drop (k + 1))
  | c :: s, 0, h, _, h2 => by
    have h2 : [(40 : UInt8), 41].contains c = true := h2
    rw [brk_iff, Bool.or_eq_true, beq_iff_eq, beq_iff_eq] at h2
    show cmtA (c :: s) = if c = 40 then none else some s
    unfold cmtA
    rcases h2 with rfl | rfl
    · rfl
    · rfl
  | c :: s, k + 1, h, h1, h2 => by
    have hc : [(40 : UInt8), 41].contains c = false := h1 0 (by simp) (by omega)
    rw [brk_iff, Bool.or_eq_false_iff, beq_eq_false_iff_ne, beq_eq_false_iff_ne] at hc
    unfold cmtA
    rw [if_neg hc.2, if_neg hc.1]
    exact cmt_at s k (by simpa using h) (fun j hj hk => h1 (j + 1) (by simpa using hj) (by omega)) h2
theorem text_cons (s : ByteArray) (h : 0 < s.size) : s.data.toList = s[0] :: s.data.toList.drop 1 := by
  have := List.drop_eq_getElem_cons (l := s.data.toList) (i := 0) h
  rw [List.drop_zero] at this
  exact this
theorem extract_drop (s : ByteArray) (i : Nat) : (s.extract i s.size).data.toList = s.data.toList.drop i := Lib.extract_to_end s i
theorem extract_size (s : ByteArray) (i : Nat) : (s.extract i s.size).size = s.size - i := by
  have h := congrArg List.length (Lib.extract_to_end s i)
  rw [List.length_drop] at h
  exact h

set_option maxRecDepth 100000 in
set_option maxHeartbeats 4000000 in
theorem askip_any (s0 : ByteArray) (w : World) (hs0 : s0.size ≤ 1000000000) : Calls Tryd.prog 36 #[.string s0] w fun e w' => e = .returned (.string (textQ (skipA s0.data.toList))) ∧ Below w.heap.size w w' := by
  obtain ⟨T, hT⟩ : ∃ T, textQ (skipA s0.data.toList) = T := ⟨_, rfl⟩
  rw [hT]
  go_enter Tryd.func36, Tryd.ntmps36
  go_wp2
  go_loopw [0] (fun sv wr => ∃ s : ByteArray, sv = .string s ∧ s.size ≤ s0.size ∧ Hid (textQ (skipA s.data.toList) = T) ∧ Below w.heap.size w wr) (fun sv _ => match sv with | .string s => s.size | _ => 0)
  case atStart => exact ⟨s0, rfl, Nat.le_refl _, Lib.hid hT, Below.refl _ _⟩
  case round =>
    obtain ⟨s, rfl, hle, hsk, hbr⟩ := hrel
    clear hT
    by_cases h0 : s.size = 0
    · have hem : s.toList.isEmpty = true := by rw [Lib.toList_data, List.eq_nil_of_length_eq_zero (show s.data.toList.length = 0 from h0)]; rfl
      have hr : s = T := by
        rw [← hsk.out, List.eq_nil_of_length_eq_zero (show s.data.toList.length = 0 from h0)]
        exact ByteArray.ext (Array.ext' (List.eq_nil_of_length_eq_zero (show s.data.toList.length = 0 from h0)))
      have Hr := Lib.hid hr
      clear h0 hr hsk
      go_wp2
      go_ret
      exact ⟨by rw [← Hr.out]; rfl, hbr⟩
    · have hpos : 0 < s.size := by omega
      have hem : s.toList.isEmpty = false := by
        rw [Lib.toList_data, List.isEmpty_eq_false_iff]
        exact fun e => h0 (by have := congrArg List.length e; exact this)
      have hcons := text_cons s hpos
      have e1 := extract_drop s 1
      have z1 := extract_size s 1
      have g1 : (1 : Int) ≤ (s.size : Int) := by omega
      obtain ⟨c, hc⟩ : ∃ c, s[0] = c := ⟨_, rfl⟩
      rw [hc] at hcons
      by_cases hb : c = 32 ∨ c = 9
      · have Hn : Hid (textQ (skipA (s.extract 1 s.size).data.toList) = T) := Lib.hid (by
          rw [e1, ← hsk.out]
          conv => rhs; rw [hcons]
          rw [skip_blank hb])
        have hlt : (s.extract 1 s.size).size < s.size := by rw [z1]; omega
        have hle2 : (s.extract 1 s.size).size ≤ s0.size := by omega
        obtain ⟨R, hR⟩ : ∃ R, s.extract 1 s.size = R := ⟨_, rfl⟩
        rw [hR] at Hn hlt hle2
        have hcn : (s[0].toNat : Int) = c.toNat := by rw [hc]
        clear hsk hcons e1 z1 hc h0
        by_cases h32 : c = 32
        · have f1 : ((s[0].toNat : Int) == 32) = true := by rw [hcn, h32]; rfl
          clear h32 hb hcn
          go_wp2
          exact ⟨⟨R, rfl, hle2, Hn, hbr⟩, hlt⟩
        · have h9 : c = 9 := by
            rcases hb with h | h
            · exact absurd h h32
            · exact h
          have f1 : ((s[0].toNat : Int) == 32) = false := by rw [hcn, h9]; rfl
          have f2 : ((s[0].toNat : Int) == 9) = true := by rw [hcn, h9]; rfl
          clear h32 h9 hb hcn
          go_wp2
          exact ⟨⟨R, rfl, hle2, Hn, hbr⟩, hlt⟩
      · have hcn : (s[0].toNat : Int) = c.toNat := by rw [hc]
        have f1 : ((s[0].toNat : Int) == 32) = false := by
          rw [hcn, beq_eq_false_iff_ne]
          exact fun e => hb (.inl (UInt8.toNat_inj.1 (by show c.toNat = 32; omega)))
        have f2 : ((s[0].toNat : Int) == 9) = false := by
          rw [hcn, beq_eq_false_iff_ne]
          exact fun e => hb (.inr (UInt8.toNat_inj.1 (by show c.toNat = 9; omega)))
        by_cases h40 : c = 40
        · have f3 : ((s[0].toNat : Int) == 40) = true := by rw [hcn, h40]; rfl
          subst h40
          have hi := fun W => iany_any (s.extract 1 s.size) ⟨#[40, 41]⟩ W (by decide) (by decide) (by rw [z1]; omega) (by decide)
          rw [e1] at hi
          have hit := iany_at [40, 41] (s.data.toList.drop 1)
          obtain ⟨k, hk⟩ : ∃ k, Lib.indexAny (s.data.toList.drop 1) [40, 41] = k := ⟨_, rfl⟩
          rw [show (⟨#[40, 41]⟩ : ByteArray).data.toList = [40, 41] from rfl] at hi
          simp only [hk] at hi
          rw [hk] at hit
          have hl1 : (s.data.toList.drop 1).length = s.size - 1 := by rw [List.length_drop]; rfl
          rcases hit with ⟨rfl, hno⟩ | ⟨j, rfl, hj, hin, hbef⟩
          · have hr : textQ (skipA s.data.toList) = s := by
              rw [hcons, skip_bad (cmt_none _ hno), ← hcons]
              rfl
            have Hr := Lib.hid (hr.symm.trans hsk.out)
            clear hr hsk hcons e1 z1 hc h0 hb hcn hno hk hl1
            go_wp2_with (go_at_call 52; refine (hi _).mono ?_; rintro e w1 ⟨rfl, hw1⟩)
            go_ret
            exact ⟨by rw [← Hr.out]; rfl, hbr.trans (hw1.mono hbr.size)⟩
          · have hcm := cmt_at _ j hj hbef hin
            have hj1 : j + 1 < s.size := by omega
            have hb1 : (s.data.toList.drop 1)[j] = s[j + 1] := by
              rw [List.getElem_drop]
              have e3 : s.data.toList[1 + j]? = s.data.toList[j + 1]? := by rw [Nat.add_comm]
              rw [List.getElem?_eq_getElem (show 1 + j < s.data.toList.length by show 1 + j < s.size; omega), List.getElem?_eq_getElem (show j + 1 < s.data.toList.length from hj1)] at e3
              exact Option.some.inj e3
            rw [hb1] at hcm
            obtain ⟨d, hd⟩ : ∃ d, s[j + 1] = d := ⟨_, rfl⟩
            rw [hd] at hcm
            have wr1 : IntKind.i64.wrap ((j : Int) + 1) = (j : Int) + 1 := by rw [IntWalk.i64_in _ (by omega)]
            have n0 : (((j : Int) + 1) == 0) = false := by rw [beq_eq_false_iff_ne]; omega
            have hdn : (s[j + 1].toNat : Int) = d.toNat := by rw [hd]
            by_cases hd40 : d = 40
            · rw [if_pos hd40] at hcm
              have hr : textQ (skipA s.data.toList) = s := by
                rw [hcons, skip_bad hcm, ← hcons]
                rfl
              have Hr := Lib.hid (hr.symm.trans hsk.out)
              have f4 : ((s[j + 1].toNat : Int) == 40) = true := by rw [hdn, hd40]; rfl
              clear hr hsk hcons e1 z1 hc h0 hb hcn hk hl1 hcm hd hd40 hin hbef hb1 hdn
              go_wp2_with (go_at_call 52; refine (hi _).mono ?_; rintro e w1 ⟨rfl, hw1⟩)
              go_ret
              exact ⟨by rw [← Hr.out]; rfl, hbr.trans (hw1.mono hbr.size)⟩
            · rw [if_neg hd40] at hcm
              have e2 := extract_drop s (j + 1 + 1)
              have z2 := extract_size s (j + 1 + 1)
              have Hn : Hid (textQ (skipA (s.extract (j + 1 + 1) s.size).data.toList) = T) := Lib.hid (by
                rw [e2, ← hsk.out]
                conv => rhs; rw [hcons]
                rw [skip_cmt hcm, List.drop_drop, show 1 + (j + 1) = j + 1 + 1 by omega])
              have f4 : ((s[j + 1].toNat : Int) == 40) = false := by
                rw [hdn, beq_eq_false_iff_ne]
                exact fun e => hd40 (UInt8.toNat_inj.1 (by show d.toNat = 40; omega))
              have wr2 : IntKind.i64.wrap ((j : Int) + 1 + 1) = (j : Int) + 1 + 1 := by rw [IntWalk.i64_in _ (by omega)]
              have hlt : (s.extract (j + 1 + 1) s.size).size < s.size := by rw [z2]; omega
              have hle2 : (s.extract (j + 1 + 1) s.size).size ≤ s0.size := by omega
              obtain ⟨R, hR⟩ : ∃ R, s.extract (j + 1 + 1) s.size = R := ⟨_, rfl⟩
              rw [hR] at Hn hlt hle2
              have c2 : (j : Int) + 1 + 1 ≤ (s.size : Int) := by omega
              clear hsk hcons e1 z1 hc h0 hb hcn hk hl1 hcm hd hd40 hin hbef hb1 hdn e2 z2
              go_wp2_with (go_at_call 52; refine (hi _).mono ?_; rintro e w1 ⟨rfl, hw1⟩)
              rw [hR]
              exact ⟨⟨R, rfl, hle2, Hn, hbr.trans (hw1.mono hbr.size)⟩, hlt⟩
        · have f3 : ((s[0].toNat : Int) == 40) = false := by
            rw [hcn, beq_eq_false_iff_ne]
            exact fun e => h40 (UInt8.toNat_inj.1 (by show c.toNat = 40; omega))
          have hr : textQ (skipA s.data.toList) = s := by
            rw [hcons, skip_else hb h40, ← hcons]
            rfl
          have Hr := Lib.hid (hr.symm.trans hsk.out)
          clear hr hsk hcons e1 z1 hc h0 hb hcn h40
          go_wp2
          go_ret
          exact ⟨by rw [← Hr.out]; rfl, hbr⟩
end Go.Proofs.YtemkikpdmihmpaaDoor
