/-
  Texts of this proof, put together: CtA, CtB.
-/
import Derived.Test.YtjikghndoklajaaGreatDoorZ06
import Derived.Test.YtjikghndoklajaaGreatDoorRows
import Derived.Test.YtjikghndoklajaaGreatDoorZ01
import Derived.Test.YtjikghndoklajaaGreatDoorZ05
import Derived.Test.YtjikghndoklajaaGreatDoorZ13
import Derived.Test.YtjikghndoklajaaGreatDoorZ11
import Derived.WalkKit
import Derived.WalkSpells
import Derived.WalkLawsBesides
import Derived.BigQuiet
import Derived.WalkSmall
import Derived.Below
import Derived.Lib.IndexBytes
import Derived.Lib.IndexAny
import Derived.Deep.QuietTactic
import Derived.Deep.RegionWith
import Derived.Lib.Hide
import Derived.Deep.RegionHeld3
import Derived.Laws.AppendOwn
import Derived.Laws.OwnMore
namespace Go.Proofs.YtjikghndoklajaaGreatDoor
open Go.RowKit

set_option maxRecDepth 100000 in
theorem cinvalue_any (c : UInt8) (w : World) : Calls Tryz.prog 154 #[.int .u8 (c.toNat : Int)] w fun e w' => e = .returned (.bool (nameCA c)) ∧ w' = w := by
  unfold nameCA
  by_cases h1 : 32 ≤ c.toNat
  · by_cases h2 : c.toNat ≤ 126
    · rw [decide_eq_true ⟨h1, h2⟩]
      go_enter Tryz.func154, Tryz.ntmps154
      go_wp2
      go_ret
      exact ⟨by first | rfl | exact congrArg (fun b => Ending.returned (Value.bool b)) (by simp <;> omega), rfl⟩
    · rw [decide_eq_false (by omega)]
      go_enter Tryz.func154, Tryz.ntmps154
      go_wp2
      go_ret
      exact ⟨by first | rfl | exact congrArg (fun b => Ending.returned (Value.bool b)) (by simp <;> omega), rfl⟩
  · rw [decide_eq_false (by omega)]
    go_enter Tryz.func154, Tryz.ntmps154
    go_wp2
    go_ret
    exact ⟨by first | rfl | exact congrArg (fun b => Ending.returned (Value.bool b)) (by simp <;> omega), rfl⟩
theorem cintext_any (c : UInt8) (w : World) : Calls Tryz.prog 102 #[.int .u8 (c.toNat : Int)] w fun e w' => e = .returned (.bool true) ∧ w' = w := by
  go_enter Tryz.func102, Tryz.ntmps102
  go_wp2
  go_ret
  exact ⟨rfl, rfl⟩
set_option maxRecDepth 100000 in
theorem cingap_any (c : UInt8) (w : World) : Calls Tryz.prog 98 #[.int .u8 (c.toNat : Int)] w fun e w' => e = .returned (.bool (gapC c)) ∧ w' = w := by
  unfold gapC
  by_cases h1 : c.toNat = 32
  · have e : (c == 32) = true := by rw [beq_iff_eq]; exact UInt8.toNat_inj.1 h1
    have f1 : ((c.toNat : Int) == 32) = true := by rw [beq_iff_eq]; omega
    rw [e, Bool.true_or]
    clear h1 e
    go_enter Tryz.func98, Tryz.ntmps98
    go_wp2
    go_ret
    exact ⟨rfl, rfl⟩
  · have e : (c == 32) = false := by rw [beq_eq_false_iff_ne]; exact fun e => h1 (by rw [e]; rfl)
    have f1 : ((c.toNat : Int) == 32) = false := by rw [beq_eq_false_iff_ne]; omega
    rw [e, Bool.false_or]
    clear h1 e
    obtain ⟨b, hb⟩ : ∃ b, (c == 9) = b := ⟨_, rfl⟩
    have f2 : ((c.toNat : Int) == 9) = b := by
      rw [← hb]
      cases h : (c == 9) with
      | true => rw [beq_iff_eq] at h; rw [h]; rfl
      | false =>
        rw [beq_eq_false_iff_ne] at h ⊢
        exact fun e => h (UInt8.toNat_inj.1 (by show c.toNat = 9; omega))
    rw [hb]
    clear hb
    go_enter Tryz.func98, Tryz.ntmps98
    go_wp2
    go_ret
    exact ⟨rfl, rfl⟩
theorem low_casesC (c : UInt8) : (c.toNat < 48 ∧ lowA c = false) ∨ (48 ≤ c.toNat ∧ c.toNat ≤ 57 ∧ lowA c = true) ∨ (57 < c.toNat ∧ 48 ≤ c.toNat ∧ c.toNat < 97 ∧ lowA c = false) ∨ (97 ≤ c.toNat ∧ c.toNat ≤ 122 ∧ lowA c = true) ∨ (122 < c.toNat ∧ 97 ≤ c.toNat ∧ 48 ≤ c.toNat ∧ 57 < c.toNat ∧ lowA c = false) := by
  unfold lowA
  by_cases h1 : c.toNat < 48
  · exact .inl ⟨h1, by simp; omega⟩
  · by_cases h2 : c.toNat ≤ 57
    · exact .inr (.inl ⟨by omega, h2, by simp; omega⟩)
    · by_cases h3 : c.toNat < 97
      · exact .inr (.inr (.inl ⟨by omega, by omega, h3, by simp; omega⟩))
      · by_cases h4 : c.toNat ≤ 122
        · exact .inr (.inr (.inr (.inl ⟨by omega, h4, by simp; omega⟩)))
        · exact .inr (.inr (.inr (.inr ⟨by omega, by omega, by omega, by omega, by simp; omega⟩)))
set_option maxRecDepth 100000 in
set_option maxHeartbeats 1000000 in
theorem cintok_any (c : UInt8) (w : World) : Calls Tryz.prog 118 #[.int .u8 (c.toNat : Int)] w fun e w' => e = .returned (.bool (tokC c)) ∧ w' = w := by
  have hi := fun W => Tryz.strings_IndexByte ⟨#[33, 35, 36, 38, 45, 94, 95, 46, 43]⟩ (c.toNat : Int) W
  rw [show ((c.toNat : Int)).toNat.toUInt8 = c by simp] at hi
  have hcon : decide ((0 : Int) ≤ Lib.indexByte (⟨#[33, 35, 36, 38, 45, 94, 95, 46, 43]⟩ : ByteArray).data.toList c) = marksC.contains c := (Lib.contains_iff_indexByte marksC c).symm
  obtain ⟨k, hk⟩ : ∃ k, Lib.indexByte (⟨#[33, 35, 36, 38, 45, 94, 95, 46, 43]⟩ : ByteArray).data.toList c = k := ⟨_, rfl⟩
  rw [hk] at hcon
  simp only [hk] at hi
  unfold tokC
  rw [← hcon]
  clear hcon hk
  rcases low_casesC c with ⟨h1, e⟩ | ⟨h1, h2, e⟩ | ⟨h1, h2, h3, e⟩ | ⟨h1, h2, e⟩ | ⟨h1, h2, h3, h4, e⟩
  all_goals
    rw [e]
    clear e
    go_enter Tryz.func118, Tryz.ntmps118
    go_wp2_with (go_at_call 150; refine (hi _).mono ?_; rintro e w1 ⟨rfl, h9⟩; obtain rfl := h9.symm)
    go_ret
    exact ⟨by first | rfl | exact congrArg (fun b => Ending.returned (Value.bool b)) (by simp <;> omega), rfl⟩
set_option maxRecDepth 100000 in
theorem cinname_any (c : UInt8) (w : World) : Calls Tryz.prog 140 #[.int .u8 (c.toNat : Int)] w fun e w' => e = .returned (.bool (inNameC c)) ∧ w' = w := by
  have hl := fun W => cintok_any c W
  unfold inNameC
  obtain ⟨L, hL⟩ : ∃ L, tokC c = L := ⟨_, rfl⟩
  rw [hL]
  simp only [hL] at hl
  clear hL
  by_cases h1 : 65 ≤ c.toNat
  · by_cases h2 : c.toNat ≤ 90
    · rw [decide_eq_true ⟨h1, h2⟩]
      go_enter Tryz.func140, Tryz.ntmps140
      go_wp2
      go_ret
      exact ⟨by first | rfl | exact congrArg (fun b => Ending.returned (Value.bool b)) (by simp <;> omega), rfl⟩
    · rw [decide_eq_false (by omega), Bool.false_or]
      go_enter Tryz.func140, Tryz.ntmps140
      go_wp2_with (go_at_call 118; refine (hl _).mono ?_; rintro e w1 ⟨rfl, h9⟩; obtain rfl := h9.symm)
      go_ret
      exact ⟨by first | rfl | exact congrArg (fun b => Ending.returned (Value.bool b)) (by simp <;> omega), rfl⟩
  · rw [decide_eq_false (by omega), Bool.false_or]
    go_enter Tryz.func140, Tryz.ntmps140
    go_wp2_with (go_at_call 118; refine (hl _).mono ?_; rintro e w1 ⟨rfl, h9⟩; obtain rfl := h9.symm)
    go_ret
    exact ⟨by first | rfl | exact congrArg (fun b => Ending.returned (Value.bool b)) (by simp <;> omega), rfl⟩

def runS {σ : Type} (f : σ → UInt8 → Bool × σ) : σ → TextA → Nat × σ
  | st, [] => (0, st)
  | st, c :: r => if (f st c).1 = true then ((runS f (f st c).2 r).1 + 1, (runS f (f st c).2 r).2) else (0, (f st c).2)
theorem run_le {σ : Type} (f : σ → UInt8 → Bool × σ) : ∀ (l : TextA) (st : σ), (runS f st l).1 ≤ l.length
  | [], _ => Nat.le_refl _
  | c :: l, st => by
    unfold runS
    split
    · have := run_le f l (f st c).2
      simp
      exact this
    · simp
def AskS {σ : Type} (g : Nat) (lb : Array Value) (f : σ → UInt8 → Bool × σ) (I : Nat → σ → World → Prop) (B n : Nat) : Prop :=
  ∀ i st W (c : UInt8), i < n → I i st W → Calls Tryz.prog g (#[.int .u8 (c.toNat : Int)] ++ lb) W fun e w' => e = .returned (.bool (f st c).1) ∧ I (i + 1) (f st c).2 w' ∧ Below B W w'

set_option maxRecDepth 100000 in
set_option maxHeartbeats 2000000 in
theorem crunof_any {σ : Type} (g : Nat) (lb : Array Value) (eg : ∀ args w, (callFunc g args).run Tryz.prog w = .ok (.enter g args) w) (f : σ → UInt8 → Bool × σ) (I : Nat → σ → World → Prop) (B : Nat) (st0 : σ) (s : ByteArray) (w : World)
    (hask : AskS g lb f I B (s.size + 1)) (h0 : I 0 st0 w) (hs : s.size ≤ 1000000000) :
    Calls Tryz.prog 104 #[.string s, .func (.func g) #[] lb] w fun e w' => e = .returned (.int .i64 ((runS f st0 s.data.toList).1 : Int)) ∧ (∃ j, j ≤ s.size + 1 ∧ I j (runS f st0 s.data.toList).2 w') ∧ Below B w w' := by
  have HA := Lib.hid hask
  have H0 := Lib.hid h0
  obtain ⟨R, hR⟩ : ∃ R, runS f st0 s.data.toList = R := ⟨_, rfl⟩
  rw [hR]
  have HR := Lib.hid hR
  have hl : s.data.toList.length = s.size := rfl
  clear hask h0 hR
  go_enter Tryz.func104, Tryz.ntmps104
  go_wp2
  go_loopw [5] (fun iv wr => ∃ (i : Nat) (st : σ), i ≤ s.size ∧ iv = .int .i64 i ∧ Hid (R.1 = i + (runS f st (s.data.toList.drop i)).1 ∧ R.2 = (runS f st (s.data.toList.drop i)).2) ∧ Hid (I i st wr) ∧ Below B w wr) (fun iv _ => s.size - (intOf iv).toNat)
  case atStart => exact ⟨0, st0, by omega, rfl, Lib.hid ⟨by rw [List.drop_zero, HR.out, Nat.zero_add], by rw [List.drop_zero, HR.out]⟩, H0, Below.refl _ _⟩
  case round =>
    obtain ⟨i, st, hi, rfl, hst, hI, hbr⟩ := hrel
    by_cases hlt : i < s.size
    · have hdr : s.data.toList.drop i = s[i] :: s.data.toList.drop (i + 1) := List.drop_eq_getElem_cons (by rw [hl]; exact hlt)
      have hst2 := hst.out
      have hcall := HA.out i st wr s[i] (by omega) hI.out
      obtain ⟨c, hc⟩ : ∃ c, s[i] = c := ⟨_, rfl⟩
      rw [hdr, hc] at hst2
      unfold runS at hst2
      rw [hc] at hcall
      cases hb : (f st c).1 with
      | true =>
        rw [hb, if_pos rfl] at hst2
        rw [hb] at hcall
        have Hn := Lib.hid (show R.1 = i + 1 + (runS f (f st c).2 (s.data.toList.drop (i + 1))).1 ∧ R.2 = (runS f (f st c).2 (s.data.toList.drop (i + 1))).2 from ⟨by rw [hst2.1]; simp only; omega, hst2.2⟩)
        clear hst hst2 hI hdr hb H0
        obtain ⟨st2, hst2⟩ : ∃ x, (f st c).2 = x := ⟨_, rfl⟩
        rw [hst2] at hcall Hn
        clear hst2
        go_wp2_with (go_at_fn g; refine hcall.mono ?_; rintro e w1 ⟨rfl, hi1, hw1⟩)
        have hb1 := hbr.trans hw1
        have HI := Lib.hid hi1
        clear hcall hw1 hbr hi1
        go_roundw
        case rel => exact ⟨i + 1, st2, by omega, by go_num, Hn, HI, hb1⟩
        case measure => simp [intOf]; omega
      | false =>
        rw [hb, if_neg (by simp)] at hst2
        rw [hb] at hcall
        have Hn := Lib.hid (show R.1 = i ∧ R.2 = (f st c).2 from ⟨by rw [hst2.1]; rfl, hst2.2⟩)
        clear hst hst2 hI hdr hb H0
        obtain ⟨st2, hst2⟩ : ∃ x, (f st c).2 = x := ⟨_, rfl⟩
        rw [hst2] at hcall Hn
        clear hst2
        go_wp2_with (go_at_fn g; refine hcall.mono ?_; rintro e w1 ⟨rfl, hi1, hw1⟩)
        have hb1 := hbr.trans hw1
        have HI := Lib.hid hi1
        clear hcall hw1 hbr hi1
        go_ret
        exact ⟨by rw [Hn.out.1]; rfl, ⟨i + 1, by omega, by rw [Hn.out.2]; exact HI.out⟩, hb1⟩
    · obtain rfl : i = s.size := by omega
      have hst2 := hst.out
      rw [List.drop_of_length_le (by rw [hl]; exact Nat.le_refl _)] at hst2
      have Hn := Lib.hid (show R.1 = s.size ∧ R.2 = st from ⟨by rw [hst2.1]; rfl, hst2.2⟩)
      clear hst hst2 H0
      go_wp2
      go_ret
      exact ⟨by rw [Hn.out.1]; rfl, ⟨s.size, by omega, by rw [Hn.out.2]; exact hI.out⟩, hbr⟩

def AskC (g : Nat) (lb : Array Value) (p : UInt8 → Bool) (W : World) : Prop := ∀ c : UInt8, Calls Tryz.prog g (#[.int .u8 (c.toNat : Int)] ++ lb) W fun e w' => e = .returned (.bool (p c)) ∧ w' = W
def pureC (p : UInt8 → Bool) (_ : Unit) (c : UInt8) : Bool × Unit := (p c, ())
theorem run_pure (p : UInt8 → Bool) : ∀ l : TextA, l.take (runS (pureC p) () l).1 = l.takeWhile p ∧ l.drop (runS (pureC p) () l).1 = l.dropWhile p
  | [] => by simp
  | c :: l => by
    obtain ⟨a, b⟩ := run_pure p l
    have e : runS (pureC p) () (c :: l) = if p c = true then ((runS (pureC p) () l).1 + 1, (runS (pureC p) () l).2) else (0, ()) := rfl
    rw [e, List.takeWhile_cons, List.dropWhile_cons]
    cases hc : p c with
    | true =>
      rw [if_pos rfl, if_pos rfl, if_pos rfl]
      exact ⟨by rw [List.take_succ_cons, a], by rw [List.drop_succ_cons, b]⟩
    | false =>
      rw [if_neg (by simp), if_neg (by simp), if_neg (by simp)]
      exact ⟨rfl, rfl⟩
theorem run_all (p : UInt8 → Bool) : ∀ l : TextA, decide ((runS (pureC p) () l).1 = l.length) = l.all p
  | [] => rfl
  | c :: l => by
    have ih := run_all p l
    have e : runS (pureC p) () (c :: l) = if p c = true then ((runS (pureC p) () l).1 + 1, (runS (pureC p) () l).2) else (0, ()) := rfl
    rw [e, List.all_cons]
    cases hc : p c with
    | true =>
      rw [if_pos rfl, ← ih, Bool.true_and, List.length_cons]
      congr 1
      exact propext ⟨fun h => by simp only at h; omega, fun h => by simp only; omega⟩
    | false =>
      rw [if_neg (by simp), Bool.false_and]
      exact decide_eq_false (by simp)
theorem ask_pure {g : Nat} {lb : Array Value} {p : UInt8 → Bool} (w : World) (n : Nat) (h : ∀ W, AskC g lb p W) (B : Nat) : AskS g lb (pureC p) (fun _ _ W => W = w) B n := fun i st W c _ hI => by
  refine (h W c).mono ?_
  rintro e w' ⟨rfl, rfl⟩
  exact ⟨rfl, hI, Below.refl _ _⟩
theorem crunof_pure (g : Nat) (lb : Array Value) (eg : ∀ args w, (callFunc g args).run Tryz.prog w = .ok (.enter g args) w) (p : UInt8 → Bool) (hask : ∀ W, AskC g lb p W) (s : ByteArray) (w : World) (hs : s.size ≤ 1000000000) :
    Calls Tryz.prog 104 #[.string s, .func (.func g) #[] lb] w fun e w' => e = .returned (.int .i64 ((runS (pureC p) () s.data.toList).1 : Int)) ∧ w' = w :=
  (crunof_any g lb eg (pureC p) (fun _ _ W => W = w) 0 () s w (ask_pure w _ hask 0) rfl hs).mono fun _ _ ⟨he, ⟨_, _, hI⟩, _⟩ => ⟨he, hI⟩
theorem enter_tok : ∀ args w, (callFunc 118 args).run Tryz.prog w = .ok (.enter 118 args) w := enters_of Tryz.func118 (by kernel_rfl) rfl
theorem enter_nameC : ∀ args w, (callFunc 140 args).run Tryz.prog w = .ok (.enter 140 args) w := enters_of Tryz.func140 (by kernel_rfl) rfl
theorem enter_value : ∀ args w, (callFunc 154 args).run Tryz.prog w = .ok (.enter 154 args) w := enters_of Tryz.func154 (by kernel_rfl) rfl
theorem enter_gap : ∀ args w, (callFunc 98 args).run Tryz.prog w = .ok (.enter 98 args) w := enters_of Tryz.func98 (by kernel_rfl) rfl
theorem enter_text : ∀ args w, (callFunc 102 args).run Tryz.prog w = .ok (.enter 102 args) w := enters_of Tryz.func102 (by kernel_rfl) rfl
theorem ask_tok (W : World) : AskC 118 #[] tokC W := fun c => cintok_any c W
theorem ask_nameC (W : World) : AskC 140 #[] inNameC W := fun c => cinname_any c W
theorem ask_value (W : World) : AskC 154 #[] nameCA W := fun c => cinvalue_any c W
theorem ask_gap (W : World) : AskC 98 #[] gapC W := fun c => cingap_any c W
theorem ask_text (W : World) : AskC 102 #[] (fun _ => true) W := fun c => cintext_any c W
set_option maxRecDepth 100000 in
theorem cisall_any (g : Nat) (eg : ∀ args w, (callFunc g args).run Tryz.prog w = .ok (.enter g args) w) (p : UInt8 → Bool) (hask : ∀ W, AskC g #[] p W) (s : ByteArray) (w : World) (hs : s.size ≤ 1000000000) :
    Calls Tryz.prog 117 #[.string s, .func (.func g) #[] #[]] w fun e w' => e = .returned (.bool (s.data.toList.all p)) ∧ w' = w := by
  have hr := crunof_pure g #[] eg p hask s w hs
  have e := run_all p s.data.toList
  obtain ⟨n, hn⟩ : ∃ n, (runS (pureC p) () s.data.toList).1 = n := ⟨_, rfl⟩
  rw [hn] at hr e
  rw [← e]
  have e2 : ((n : Int) == (s.size : Int)) = decide (n = s.data.toList.length) := by
    show decide ((n : Int) = (s.size : Int)) = decide (n = s.size)
    exact decide_eq_decide.2 (by omega)
  rw [← e2]
  clear e e2 hn
  go_enter Tryz.func117, Tryz.ntmps117
  go_wp2_with (go_at_call 104; refine hr.mono ?_; rintro e w1 ⟨rfl, h9⟩; obtain rfl := h9.symm)
  go_ret
  exact ⟨rfl, rfl⟩
set_option maxRecDepth 100000 in
theorem cistok_any (s : ByteArray) (w : World) : Calls Tryz.prog 79 #[.string s] w fun e w' => e = .returned (.bool (tokT s.data.toList)) ∧ w' = w := by
  unfold tokT
  rw [show s.data.toList.length = s.size from rfl]
  by_cases h1 : 1 ≤ s.size
  · by_cases h2 : s.size ≤ 64
    · have hc := cisall_any 118 enter_tok tokC ask_tok s w (by omega)
      obtain ⟨L, hL⟩ : ∃ L, s.data.toList.all tokC = L := ⟨_, rfl⟩
      rw [hL] at hc ⊢
      clear hL
      rw [decide_eq_true h1, decide_eq_true h2, Bool.true_and, Bool.true_and]
      go_enter Tryz.func79, Tryz.ntmps79
      go_wp2_with (go_at_call 117; refine hc.mono ?_; rintro e w1 ⟨rfl, h9⟩; obtain rfl := h9.symm)
      go_ret
      exact ⟨rfl, rfl⟩
    · rw [decide_eq_false h2, Bool.false_and, Bool.and_false]
      go_enter Tryz.func79, Tryz.ntmps79
      go_wp2
      go_ret
      exact ⟨rfl, rfl⟩
  · rw [decide_eq_false h1, Bool.false_and]
    go_enter Tryz.func79, Tryz.ntmps79
    go_wp2
    go_ret
    exact ⟨rfl, rfl⟩
set_option maxRecDepth 100000 in
theorem crightv_any (s : ByteArray) (w : World) : Calls Tryz.prog 119 #[.string s] w fun e w' => e = .returned (.bool (valT s.data.toList)) ∧ w' = w := by
  unfold valT
  rw [show s.data.toList.length = s.size from rfl]
  by_cases h2 : s.size ≤ 70
  · have hc := cisall_any 154 enter_value nameCA ask_value s w (by omega)
    obtain ⟨L, hL⟩ : ∃ L, s.data.toList.all nameCA = L := ⟨_, rfl⟩
    rw [hL] at hc ⊢
    clear hL
    rw [decide_eq_true h2, Bool.true_and]
    go_enter Tryz.func119, Tryz.ntmps119
    go_wp2_with (go_at_call 117; refine hc.mono ?_; rintro e w1 ⟨rfl, h9⟩; obtain rfl := h9.symm)
    go_ret
    exact ⟨rfl, rfl⟩
  · rw [decide_eq_false h2, Bool.false_and]
    go_enter Tryz.func119, Tryz.ntmps119
    go_wp2
    go_ret
    exact ⟨rfl, rfl⟩
end Go.Proofs.YtjikghndoklajaaGreatDoor
namespace Go.Proofs.YtjikghndoklajaaGreatDoor
open Go.RowKit

theorem infoPar : (Tryz.prog.info? 57).map (fun i => (i.zero, i.size, i.bytes)) = some (some (.agg #[.string ⟨#[]⟩, .string ⟨#[]⟩]), 2, 32) := by kernel_rfl
def parCells (p : ParC) : List Value := [.string (textQ p.1), .string (textQ p.2)]
def parsCells (l : List ParC) : List Value := l.flatMap parCells
theorem pars_at : ∀ (l : List ParC) (i : Nat) (h : i < l.length), (parsCells l)[i * 2]? = some (.string (textQ l[i].1)) ∧ (parsCells l)[i * 2 + 1]? = some (.string (textQ l[i].2))
  | a :: l, 0, _ => ⟨rfl, rfl⟩
  | a :: l, i + 1, h => by
    obtain ⟨h1, h2⟩ := pars_at l i (by simpa using h)
    have e : ∀ k, (parsCells (a :: l))[(i + 1) * 2 + k]? = (parsCells l)[i * 2 + k]? := fun k => by
      show (parCells a ++ parsCells l)[(i + 1) * 2 + k]? = _
      rw [List.getElem?_append_right (by simp [parCells]; omega)]
      congr 1
      simp [parCells]
      omega
    exact ⟨(e 0).trans h1, (e 1).trans h2⟩
abbrev ParsOwn (w : World) (B : Nat) (v : Value) (l : List ParC) : Prop := w.ownsRow B 57 2 v l.length (parsCells l)
theorem append_parC {w : World} {ops : Array Oper} {rest : List Oper} {o : Oper} {a : Act} {Q : Exit → Act → World → Prop} (hgd : o.guard = none) (s x : Operand)
    (ho : o.op = .call { callee := .builtin .append, args := #[s, x], argTypes := #[24, 24] }) (B : Nat) (v : Value) (l : List ParC) (p : ParC) (hs : a.eval s = v) (hown : ParsOwn w B v l) (hB : B ≤ w.heap.size) (hl : l.length ≤ 1000000)
    (b c : Nat) (hx : a.eval x = .slice (some ⟨b, 0, none⟩) 1 c) (h0 : w.cell? ⟨b, 0, none⟩ = some (.string (textQ p.1))) (h1 : w.cell? ⟨b, 1, none⟩ = some (.string (textQ p.2)))
    (h : ∀ v' w', ParsOwn w' B v' (l ++ [p]) → w.grownBy w' v.ownBlock → wpList Tryz.prog ops Q rest (a.put o.dst v') w') : wpList Tryz.prog ops Q (o :: rest) a w := by
  obtain ⟨i0, hi, hz0, hz1, hz2⟩ := info_parts infoPar
  refine wpList_append_own w hgd s x 24 ho B 57 i0 (.agg #[.string ⟨#[]⟩, .string ⟨#[]⟩]) 2 32 Tryz.underlying24 hi hz0 hz1 hz2 rfl (by decide) v l.length _ hs hown ⟨b, 0, none⟩ 1 c (parCells p) hx rfl (fun j u hj => ?_) (fun u hu => ?_) (by unfold maxLen; omega) (by omega) hB (fun v' w' q1 q2 _ => ?_)
  · rw [Addr.add_lit, Nat.zero_add]
    match j, hj with
    | 0, hj => cases hj; exact h0
    | 1, hj => cases hj; exact h1
    | j + 2, hj => cases hj
  · simp only [parCells, List.mem_cons, List.not_mem_nil, or_false] at hu
    rcases hu with rfl | rfl <;> rfl
  · refine h v' w' ?_ q2
    unfold ParsOwn
    rw [List.length_append, show parsCells (l ++ [p]) = parsCells l ++ parCells p by simp [parsCells]]
    exact q1
def ParsAt (w : World) (B : Nat) (v : Value) (l : List ParC) : Prop :=
  ∃ ao cap, v = .slice ao l.length cap ∧ l.length ≤ cap ∧ cap ≤ maxLen ∧ ∀ i (hi : i < l.length), ∃ g off, ao = some ⟨g, off, none⟩ ∧ g < B ∧
    w.cell? ⟨g, off + i * 2, none⟩ = some (.string (textQ l[i].1)) ∧ w.cell? ⟨g, off + i * 2 + 1, none⟩ = some (.string (textQ l[i].2))
theorem ParsAt.below {w w' : World} {B B' : Nat} {v : Value} {l : List ParC} (h : ParsAt w B v l) (hb : Below B' w w') (hB : B ≤ B') : ParsAt w' B v l := by
  obtain ⟨ao, cap, h1, h2, h3, h4⟩ := h
  refine ⟨ao, cap, h1, h2, h3, fun i hi => ?_⟩
  obtain ⟨g, off, q1, q2, q3, q4⟩ := h4 i hi
  have hc : ∀ j, w'.cell? ⟨g, j, none⟩ = w.cell? ⟨g, j, none⟩ := fun j => hb.cell (p := ⟨g, j, none⟩) (by show g < B'; omega)
  exact ⟨g, off, q1, q2, (hc _).trans q3, (hc _).trans q4⟩
theorem ParsAt.up {w : World} {B B' : Nat} {v : Value} {l : List ParC} (h : ParsAt w B v l) (hB : B ≤ B') : ParsAt w B' v l := by
  obtain ⟨ao, cap, h1, h2, h3, h4⟩ := h
  refine ⟨ao, cap, h1, h2, h3, fun i hi => ?_⟩
  obtain ⟨g, off, q1, q2, q3⟩ := h4 i hi
  exact ⟨g, off, q1, by omega, q3⟩
theorem ParsAt.nil (w : World) (B : Nat) : ParsAt w B (.slice none 0 0) [] := ⟨none, 0, rfl, Nat.le_refl _, by simp, fun i hi => absurd hi (by simp)⟩
theorem ParsOwn.at {w : World} {B : Nat} {v : Value} {l : List ParC} (h : ParsOwn w B v l) : ParsAt w w.heap.size v l := by
  obtain ⟨h1, h2⟩ := h
  rcases h2 with ⟨rfl, h0⟩ | ⟨g, cap, cur, rfl, hg, hb, hc, hm, hs, ht⟩
  · have hl : l = [] := List.eq_nil_of_length_eq_zero h0
    subst hl
    exact ParsAt.nil _ _
  · refine ⟨_, cap, rfl, hc, hm, fun i hi => ⟨g, 0, rfl, heap_lt hb, ?_⟩⟩
    obtain ⟨c0, c1⟩ := pars_at l i hi
    have hcell : ∀ j u, (parsCells l)[j]? = some u → j < l.length * 2 → w.cell? ⟨g, j, none⟩ = some u := fun j u hj hlt => by
      rw [Lib.cell_of_heap hb j]
      rw [← ht, List.getElem?_take_of_lt hlt] at hj
      rw [← hj]
      simp
    have q0 := hcell _ _ c0 (by omega)
    have q1 := hcell _ _ c1 (by omega)
    rw [show 0 + i * 2 = i * 2 by omega]
    exact ⟨q0, q1⟩
def ParAt (w : World) (B : Nat) (X Y : ByteArray) : Prop := w.heap[B]? = some (.cells #[.string X, .string Y] 57 (0, 0))
section
variable {w w' : World} {B : Nat} {X Y : ByteArray}
theorem ParAt.lt (h : ParAt w B X Y) : B < w.heap.size := heap_lt h
theorem ParAt.cells (h : ParAt w B X Y) : w.cell? ⟨B, 0, none⟩ = some (.string X) ∧ w.cell? ⟨B, 1, none⟩ = some (.string Y) ∧ w.frozen? ⟨B, 0, none⟩ = false ∧ w.frozen? ⟨B, 1, none⟩ = false :=
  ⟨Lib.cell_of_heap h 0, Lib.cell_of_heap h 1, Lib.frozen_of_heap h 0, Lib.frozen_of_heap h 1⟩
theorem ParAt.below (h : ParAt w B X Y) (hb : Below w.heap.size w w') : ParAt w' B X Y := (hb.block _ h.lt).trans h
theorem par_new (w : World) (X Y : ByteArray) : ParAt (w.alloc (.cells #[.string X, .string Y] 57)) w.heap.size X Y := heap_alloc_new w _
end

def idxC : List ParC → TextA → Int
  | [], _ => -1
  | p :: l, n => if p.1 = n then 0 else if idxC l n = -1 then -1 else idxC l n + 1
theorem idx_at : ∀ (l : List ParC) (n : TextA) (i : Nat) (h : i < l.length), l[i].1 = n → (∀ j (hj : j < l.length), j < i → l[j].1 ≠ n) → idxC l n = i
  | p :: l, n, 0, _, h, _ => by
    unfold idxC
    rw [if_pos (show p.1 = n from h)]
    rfl
  | p :: l, n, i + 1, hi, h, hb => by
    unfold idxC
    have ih := idx_at l n i (by simpa using hi) h (fun j hj h2 => hb (j + 1) (by simpa using hj) (by omega))
    rw [if_neg (show ¬ p.1 = n from hb 0 (by simp) (by omega)), ih, if_neg (by omega)]
    rfl
theorem idx_noneC : ∀ (l : List ParC) (n : TextA), (∀ j (hj : j < l.length), l[j].1 ≠ n) → idxC l n = -1
  | [], _, _ => rfl
  | p :: l, n, h => by
    unfold idxC
    rw [if_neg (show ¬ p.1 = n from h 0 (by simp)), if_pos (idx_noneC l n (fun j hj => h (j + 1) (by simpa using hj)))]
theorem idx_cases (l : List ParC) (n : TextA) : (idxC l n = -1 ∧ findC l n = none ∧ hasC l n = false) ∨ ∃ i, ∃ h : i < l.length, idxC l n = i ∧ findC l n = some l[i] ∧ hasC l n = true := by
  induction l with
  | nil => exact .inl ⟨rfl, rfl, rfl⟩
  | cons p l ih =>
    by_cases hp : p.1 = n
    · refine .inr ⟨0, by simp, ?_, ?_, ?_⟩
      · unfold idxC
        rw [if_pos hp]
        rfl
      · unfold findC
        rw [List.find?_cons, beq_iff_eq.2 hp]
        rfl
      · unfold hasC
        rw [List.any_cons, beq_iff_eq.2 hp, Bool.true_or]
    · have hb : (p.1 == n) = false := beq_eq_false_iff_ne.2 hp
      have e2 : findC (p :: l) n = findC l n := by
        unfold findC
        rw [List.find?_cons, hb]
      have e3 : hasC (p :: l) n = hasC l n := by
        unfold hasC
        rw [List.any_cons, hb, Bool.false_or]
      rw [e2, e3]
      unfold idxC
      rw [if_neg hp]
      rcases ih with ⟨h1, h2, h3⟩ | ⟨i, hi, h1, h2, h3⟩
      · rw [if_pos h1]
        exact .inl ⟨rfl, h2, h3⟩
      · rw [h1, if_neg (by omega)]
        exact .inr ⟨i + 1, by simpa using hi, rfl, h2, h3⟩
theorem has_idx (l : List ParC) (n : TextA) : decide ((0 : Int) ≤ idxC l n) = hasC l n := by
  rcases idx_cases l n with ⟨h1, _, h3⟩ | ⟨i, _, h1, _, h3⟩
  · rw [h1, h3]
    rfl
  · rw [h1, h3]
    exact decide_eq_true (by omega)

theorem str_eqC (s t : TextA) : ((textQ s).toList == (textQ t).toList) = (s == t) := by
  rw [Lib.toList_data, Lib.toList_data]
  rfl
set_option maxRecDepth 100000 in
theorem cplace1_any (X Y N : ByteArray) (O : Nat) (w : World) (hO : Boxed w O 9 (.string N)) :
    Calls Tryz.prog 105 #[.agg #[.string X, .string Y], .pointer (some ⟨O, 0, none⟩)] w fun e w' => e = .returned (.bool (X.toList == N.toList)) ∧ Below w.heap.size w w' := by
  have c1 := hO.cell
  have hl := hO.lt
  have hne : O ≠ w.heap.size := by omega
  clear hO
  go_enter Tryz.func105, Tryz.ntmps105
  go_wp2
  go_ret
  exact ⟨rfl, (Below.refl _ _).alloc (Nat.le_refl _) _⟩
theorem enter_place : ∀ args w, (callFunc 105 args).run Tryz.prog w = .ok (.enter 105 args) w := enters_of Tryz.func105 (by kernel_rfl) rfl

set_option maxRecDepth 100000 in
set_option maxHeartbeats 4000000 in
theorem cindex_any (B : Nat) (v : Value) (l : List ParC) (n : TextA) (O : Nat) (w : World) (h : ParsAt w B v l) (hB : B ≤ w.heap.size) (hO : Boxed w O 9 (.string (textQ n))) :
    Calls Tryz.prog 81 #[v, .func (.func 105) #[] #[.pointer (some ⟨O, 0, none⟩)]] w fun e w' => e = .returned (.int .i64 (idxC l n)) ∧ Below w.heap.size w w' := by
  obtain ⟨ao, cap, rfl, hc1, hc2, hat⟩ := h
  have Hat := Lib.hid hat
  obtain ⟨k, hkl⟩ : ∃ k, l.length = k := ⟨_, rfl⟩
  have Hk := Lib.hid hkl
  have HO := Lib.hid hO
  unfold maxLen at hc2
  obtain ⟨R, hR⟩ : ∃ R, idxC l n = R := ⟨_, rfl⟩
  rw [hkl] at hc1 ⊢
  rw [hR]
  have HR := Lib.hid hR
  have he := enter_place
  clear hat hkl hO hR
  go_enter Tryz.func81, Tryz.ntmps81
  go_wp2
  go_loopw [8] (fun iv wr => ∃ i : Nat, i ≤ k ∧ iv = .int .i64 i ∧ Hid (∀ j (hj : j < l.length), j < i → l[j].1 ≠ n) ∧ Below w.heap.size w wr) (fun iv _ => k - (intOf iv).toNat)
  case atStart => exact ⟨0, by omega, rfl, Lib.hid (fun j _ h => by omega), Below.refl _ _⟩
  case round =>
    obtain ⟨i, hi, rfl, hg, hbr⟩ := hrel
    by_cases hlt : i < k
    · have hil : i < l.length := by rw [Hk.out]; exact hlt
      obtain ⟨g, off, rfl, hgB, z0, z1⟩ := Hat.out i hil
      have hyes : Hid ((l[i].1 == n) = true → R = i) := Lib.hid fun h => HR.out.symm.trans (idx_at l n i hil (by simpa using h) hg.out)
      have hno : Hid ((l[i].1 == n) = false → ∀ j (hj : j < l.length), j < i + 1 → l[j].1 ≠ n) := Lib.hid fun h j hj h3 => by
        rcases Nat.lt_or_ge j i with h4 | h4
        · exact hg.out j hj h4
        · obtain rfl : j = i := by omega
          exact beq_eq_false_iff_ne.1 h
      have hcall := cplace1_any (textQ l[i].1) (textQ l[i].2) (textQ n) O wr (boxed_below HO.out hbr)
      rw [str_eqC] at hcall
      obtain ⟨f, hf⟩ : ∃ f, l[i] = f := ⟨_, rfl⟩
      rw [hf] at z0 z1 hyes hno hcall
      obtain ⟨X, hX⟩ : ∃ X, textQ f.1 = X := ⟨_, rfl⟩
      obtain ⟨Y, hY⟩ : ∃ Y, textQ f.2 = Y := ⟨_, rfl⟩
      rw [hX] at z0 hcall
      rw [hY] at z1 hcall
      have y0 := (hbr.cell (p := ⟨g, off + i * 2, none⟩) (by show g < w.heap.size; omega)).trans z0
      have y1 := (hbr.cell (p := ⟨g, off + i * 2 + 1, none⟩) (by show g < w.heap.size; omega)).trans z1
      have hbz := hbr.size
      clear z0 z1 hX hY hg hil hf
      cases hq : (f.1 == n) with
      | true =>
        rw [hq] at hcall
        have Hr := Lib.hid (hyes.out hq)
        clear hyes hno hq
        go_wp2_with (go_at_fn 105; refine hcall.mono ?_; rintro e w1 ⟨rfl, hw1⟩)
        have hb1 := hbr.trans (hw1.mono hbz)
        go_ret
        exact ⟨by rw [Hr.out]; rfl, hb1⟩
      | false =>
        rw [hq] at hcall
        have Hr := Lib.hid (hno.out hq)
        clear hyes hno hq
        go_wp2_with (go_at_fn 105; refine hcall.mono ?_; rintro e w1 ⟨rfl, hw1⟩)
        have hb1 := hbr.trans (hw1.mono hbz)
        go_roundw
        case rel => exact ⟨i + 1, by omega, by go_num, Hr, hb1⟩
        case measure => simp [intOf]; omega
    · obtain rfl : i = k := by omega
      have hall : R = -1 := HR.out.symm.trans (idx_noneC l n (fun j hj => hg.out j hj (by rw [← Hk.out]; exact hj)))
      have Hall := Lib.hid hall
      clear hall hg
      go_wp2
      go_ret
      exact ⟨by rw [Hall.out]; rfl, hbr⟩
set_option maxRecDepth 100000 in
theorem cplace_any (B : Nat) (v : Value) (l : List ParC) (n : TextA) (w : World) (h : ParsAt w B v l) (hB : B ≤ w.heap.size) :
    Calls Tryz.prog 68 #[v, .string (textQ n)] w fun e w' => e = .returned (.int .i64 (idxC l n)) ∧ Below w.heap.size w w' := by
  obtain ⟨N, hN⟩ : ∃ N, textQ n = N := ⟨_, rfl⟩
  have hmf : ∀ (fn : Fn) (first cap : Array Value) (w : World), (Instr.makeFunc fn first cap).run Tryz.prog w = .ok (.func fn first cap) w := fun _ _ _ _ => rfl
  have hcall := cindex_any B v l n w.heap.size (w.alloc (.cells #[.string N] 9)) (h.below ((Below.refl w.heap.size w).alloc (Nat.le_refl _) _) hB) (by simp; omega) (by rw [hN]; exact Boxed.new _ _ _)
  rw [hN]
  obtain ⟨R, hR⟩ : ∃ R, idxC l n = R := ⟨_, rfl⟩
  rw [hR] at hcall ⊢
  clear h hN hR
  go_enter Tryz.func68, Tryz.ntmps68
  go_wp2_with (go_at_call 81; refine hcall.mono ?_; rintro e w1 ⟨rfl, hw1⟩)
  go_ret
  exact ⟨rfl, ((Below.refl _ _).alloc (Nat.le_refl _) _).trans (hw1.mono (by simp))⟩
set_option maxRecDepth 100000 in
theorem chasn_any (B : Nat) (v : Value) (l : List ParC) (n : TextA) (w : World) (h : ParsAt w B v l) (hB : B ≤ w.heap.size) :
    Calls Tryz.prog 120 #[v, .string (textQ n)] w fun e w' => e = .returned (.bool (hasC l n)) ∧ Below w.heap.size w w' := by
  have hcall := cplace_any B v l n w h hB
  rw [← has_idx]
  obtain ⟨N, hN⟩ : ∃ N, textQ n = N := ⟨_, rfl⟩
  obtain ⟨R, hR⟩ : ∃ R, idxC l n = R := ⟨_, rfl⟩
  rw [hR] at hcall ⊢
  rw [hN] at hcall ⊢
  clear h hN hR
  go_enter Tryz.func120, Tryz.ntmps120
  go_wp2_with (go_at_call 68; refine hcall.mono ?_; rintro e w1 ⟨rfl, hw1⟩)
  go_ret
  exact ⟨rfl, hw1⟩
end Go.Proofs.YtjikghndoklajaaGreatDoor
