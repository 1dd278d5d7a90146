/-
  What ctype's questions of one byte come to; runOf, whatever question it is handed, also one that changes what it answers by.
-/
import Derived.Test.YtafpifpgfpkckaaDoorC12P
import Derived.Test.YtafpifpgfpkckaaDoorRows
import Derived.Test.YtafpifpgfpkckaaDoorShelf
import Derived.Test.YtafpifpgfpkckaaDoorGlue
import Derived.Test.YtafpifpgfpkckaaDoorConv
import Derived.Test.YtafpifpgfpkckaaDoorTurn
import Derived.Test.YtafpifpgfpkckaaDoorKept
import Derived.WalkKit
import Derived.WalkSpells
import Derived.WalkLawsBesides
import Derived.BigQuiet
import Derived.WalkSmall
import Derived.Below
import Derived.Lib.IndexBytes
import Derived.Lib.IndexAny
import Derived.Deep.QuietTactic
import Derived.Deep.RegionWith
import Derived.Lib.Hide
namespace Go.Proofs.YtafpifpgfpkckaaDoor
open Go.RowKit

set_option maxRecDepth 100000 in
theorem cinvalue_any (c : UInt8) (w : World) : Calls Tryd.prog 57 #[.int .u8 (c.toNat : Int)] w fun e w' => e = .returned (.bool (nameCA c)) ∧ w' = w := by
  unfold nameCA
  by_cases h1 : 32 ≤ c.toNat
  · by_cases h2 : c.toNat ≤ 126
    · rw [decide_eq_true ⟨h1, h2⟩]
      go_enter Tryd.func57, Tryd.ntmps57
      go_wp2
      go_ret
      exact ⟨by first | rfl | exact congrArg (fun b => Ending.returned (Value.bool b)) (by simp <;> omega), rfl⟩
    · rw [decide_eq_false (by omega)]
      go_enter Tryd.func57, Tryd.ntmps57
      go_wp2
      go_ret
      exact ⟨by first | rfl | exact congrArg (fun b => Ending.returned (Value.bool b)) (by simp <;> omega), rfl⟩
  · rw [decide_eq_false (by omega)]
    go_enter Tryd.func57, Tryd.ntmps57
    go_wp2
    go_ret
    exact ⟨by first | rfl | exact congrArg (fun b => Ending.returned (Value.bool b)) (by simp <;> omega), rfl⟩
theorem cintext_any (c : UInt8) (w : World) : Calls Tryd.prog 41 #[.int .u8 (c.toNat : Int)] w fun e w' => e = .returned (.bool true) ∧ w' = w := by
  go_enter Tryd.func41, Tryd.ntmps41
  go_wp2
  go_ret
  exact ⟨rfl, rfl⟩
set_option maxRecDepth 100000 in
theorem cingap_any (c : UInt8) (w : World) : Calls Tryd.prog 37 #[.int .u8 (c.toNat : Int)] w fun e w' => e = .returned (.bool (gapC c)) ∧ w' = w := by
  unfold gapC
  by_cases h1 : c.toNat = 32
  · have e : (c == 32) = true := by rw [beq_iff_eq]; exact UInt8.toNat_inj.1 h1
    have f1 : ((c.toNat : Int) == 32) = true := by rw [beq_iff_eq]; omega
    rw [e, Bool.true_or]
    clear h1 e
    go_enter Tryd.func37, Tryd.ntmps37
    go_wp2
    go_ret
    exact ⟨rfl, rfl⟩
  · have e : (c == 32) = false := by rw [beq_eq_false_iff_ne]; exact fun e => h1 (by rw [e]; rfl)
    have f1 : ((c.toNat : Int) == 32) = false := by rw [beq_eq_false_iff_ne]; omega
    rw [e, Bool.false_or]
    clear h1 e
    obtain ⟨b, hb⟩ : ∃ b, (c == 9) = b := ⟨_, rfl⟩
    have f2 : ((c.toNat : Int) == 9) = b := by
      rw [← hb]
      cases h : (c == 9) with
      | true => rw [beq_iff_eq] at h; rw [h]; rfl
      | false =>
        rw [beq_eq_false_iff_ne] at h ⊢
        exact fun e => h (UInt8.toNat_inj.1 (by show c.toNat = 9; omega))
    rw [hb]
    clear hb
    go_enter Tryd.func37, Tryd.ntmps37
    go_wp2
    go_ret
    exact ⟨rfl, rfl⟩
theorem low_casesC (c : UInt8) : (c.toNat < 48 ∧ lowA c = false) ∨ (48 ≤ c.toNat ∧ c.toNat ≤ 57 ∧ lowA c = true) ∨ (57 < c.toNat ∧ 48 ≤ c.toNat ∧ c.toNat < 97 ∧ lowA c = false) ∨ (97 ≤ c.toNat ∧ c.toNat ≤ 122 ∧ lowA c = true) ∨ (122 < c.toNat ∧ 97 ≤ c.toNat ∧ 48 ≤ c.toNat ∧ 57 < c.toNat ∧ lowA c = false) := by
  unfold lowA
  by_cases h1 : c.toNat < 48
  · exact .inl ⟨h1, by simp; omega⟩
  · by_cases h2 : c.toNat ≤ 57
    · exact .inr (.inl ⟨by omega, h2, by simp; omega⟩)
    · by_cases h3 : c.toNat < 97
      · exact .inr (.inr (.inl ⟨by omega, by omega, h3, by simp; omega⟩))
      · by_cases h4 : c.toNat ≤ 122
        · exact .inr (.inr (.inr (.inl ⟨by omega, h4, by simp; omega⟩)))
        · exact .inr (.inr (.inr (.inr ⟨by omega, by omega, by omega, by omega, by simp; omega⟩)))
set_option maxRecDepth 100000 in
set_option maxHeartbeats 1000000 in
theorem cintok_any (c : UInt8) (w : World) : Calls Tryd.prog 48 #[.int .u8 (c.toNat : Int)] w fun e w' => e = .returned (.bool (tokC c)) ∧ w' = w := by
  have hi := fun W => Tryd.strings_IndexByte ⟨#[33, 35, 36, 38, 45, 94, 95, 46, 43]⟩ (c.toNat : Int) W
  rw [show ((c.toNat : Int)).toNat.toUInt8 = c by simp] at hi
  have hcon : decide ((0 : Int) ≤ Lib.indexByte (⟨#[33, 35, 36, 38, 45, 94, 95, 46, 43]⟩ : ByteArray).data.toList c) = marksC.contains c := (Lib.contains_iff_indexByte marksC c).symm
  obtain ⟨k, hk⟩ : ∃ k, Lib.indexByte (⟨#[33, 35, 36, 38, 45, 94, 95, 46, 43]⟩ : ByteArray).data.toList c = k := ⟨_, rfl⟩
  rw [hk] at hcon
  simp only [hk] at hi
  unfold tokC
  rw [← hcon]
  clear hcon hk
  rcases low_casesC c with ⟨h1, e⟩ | ⟨h1, h2, e⟩ | ⟨h1, h2, h3, e⟩ | ⟨h1, h2, e⟩ | ⟨h1, h2, h3, h4, e⟩
  all_goals
    rw [e]
    clear e
    go_enter Tryd.func48, Tryd.ntmps48
    go_wp2_with (go_at_call 56; refine (hi _).mono ?_; rintro e w1 ⟨rfl, h9⟩; obtain rfl := h9.symm)
    go_ret
    exact ⟨by first | rfl | exact congrArg (fun b => Ending.returned (Value.bool b)) (by simp <;> omega), rfl⟩
set_option maxRecDepth 100000 in
theorem cinname_any (c : UInt8) (w : World) : Calls Tryd.prog 53 #[.int .u8 (c.toNat : Int)] w fun e w' => e = .returned (.bool (inNameC c)) ∧ w' = w := by
  have hl := fun W => cintok_any c W
  unfold inNameC
  obtain ⟨L, hL⟩ : ∃ L, tokC c = L := ⟨_, rfl⟩
  rw [hL]
  simp only [hL] at hl
  clear hL
  by_cases h1 : 65 ≤ c.toNat
  · by_cases h2 : c.toNat ≤ 90
    · rw [decide_eq_true ⟨h1, h2⟩]
      go_enter Tryd.func53, Tryd.ntmps53
      go_wp2
      go_ret
      exact ⟨by first | rfl | exact congrArg (fun b => Ending.returned (Value.bool b)) (by simp <;> omega), rfl⟩
    · rw [decide_eq_false (by omega), Bool.false_or]
      go_enter Tryd.func53, Tryd.ntmps53
      go_wp2_with (go_at_call 48; refine (hl _).mono ?_; rintro e w1 ⟨rfl, h9⟩; obtain rfl := h9.symm)
      go_ret
      exact ⟨by first | rfl | exact congrArg (fun b => Ending.returned (Value.bool b)) (by simp <;> omega), rfl⟩
  · rw [decide_eq_false (by omega), Bool.false_or]
    go_enter Tryd.func53, Tryd.ntmps53
    go_wp2_with (go_at_call 48; refine (hl _).mono ?_; rintro e w1 ⟨rfl, h9⟩; obtain rfl := h9.symm)
    go_ret
    exact ⟨by first | rfl | exact congrArg (fun b => Ending.returned (Value.bool b)) (by simp <;> omega), rfl⟩

/-- How many first bytes a question lets through that may change by what it is asked, and what it is behind them. -/
def runS {σ : Type} (f : σ → UInt8 → Bool × σ) : σ → TextA → Nat × σ
  | st, [] => (0, st)
  | st, c :: r => if (f st c).1 = true then ((runS f (f st c).2 r).1 + 1, (runS f (f st c).2 r).2) else (0, (f st c).2)
theorem run_le {σ : Type} (f : σ → UInt8 → Bool × σ) : ∀ (l : TextA) (st : σ), (runS f st l).1 ≤ l.length
  | [], _ => Nat.le_refl _
  | c :: l, st => by
    unfold runS
    split
    · have := run_le f l (f st c).2
      simp
      exact this
    · simp
/-- What a question is, where it is asked: i counts how often; it leaves what lies below B. -/
def AskS {σ : Type} (g : Nat) (lb : Array Value) (f : σ → UInt8 → Bool × σ) (I : Nat → σ → World → Prop) (B n : Nat) : Prop :=
  ∀ i st W (c : UInt8), i < n → I i st W → Calls Tryd.prog g (#[.int .u8 (c.toNat : Int)] ++ lb) W fun e w' => e = .returned (.bool (f st c).1) ∧ I (i + 1) (f st c).2 w' ∧ Below B W w'

set_option maxRecDepth 100000 in
set_option maxHeartbeats 2000000 in
theorem crunof_any {σ : Type} (g : Nat) (lb : Array Value) (eg : ∀ args w, (callFunc g args).run Tryd.prog w = .ok (.enter g args) w) (f : σ → UInt8 → Bool × σ) (I : Nat → σ → World → Prop) (B : Nat) (st0 : σ) (s : ByteArray) (w : World)
    (hask : AskS g lb f I B (s.size + 1)) (h0 : I 0 st0 w) (hs : s.size ≤ 1000000000) :
    Calls Tryd.prog 43 #[.string s, .func (.func g) #[] lb] w fun e w' => e = .returned (.int .i64 ((runS f st0 s.data.toList).1 : Int)) ∧ (∃ j, j ≤ s.size + 1 ∧ I j (runS f st0 s.data.toList).2 w') ∧ Below B w w' := by
  have HA := Lib.hid hask
  have H0 := Lib.hid h0
  obtain ⟨R, hR⟩ : ∃ R, runS f st0 s.data.toList = R := ⟨_, rfl⟩
  rw [hR]
  have HR := Lib.hid hR
  have hl : s.data.toList.length = s.size := rfl
  clear hask h0 hR
  go_enter Tryd.func43, Tryd.ntmps43
  go_wp2
  go_loopw [5] (fun iv wr => ∃ (i : Nat) (st : σ), i ≤ s.size ∧ iv = .int .i64 i ∧ Hid (R.1 = i + (runS f st (s.data.toList.drop i)).1 ∧ R.2 = (runS f st (s.data.toList.drop i)).2) ∧ Hid (I i st wr) ∧ Below B w wr) (fun iv _ => s.size - (intOf iv).toNat)
  case atStart => exact ⟨0, st0, by omega, rfl, Lib.hid ⟨by rw [List.drop_zero, HR.out, Nat.zero_add], by rw [List.drop_zero, HR.out]⟩, H0, Below.refl _ _⟩
  case round =>
    obtain ⟨i, st, hi, rfl, hst, hI, hbr⟩ := hrel
    by_cases hlt : i < s.size
    · have hdr : s.data.toList.drop i = s[i] :: s.data.toList.drop (i + 1) := List.drop_eq_getElem_cons (by rw [hl]; exact hlt)
      have hst2 := hst.out
      have hcall := HA.out i st wr s[i] (by omega) hI.out
      obtain ⟨c, hc⟩ : ∃ c, s[i] = c := ⟨_, rfl⟩
      rw [hdr, hc] at hst2
      unfold runS at hst2
      rw [hc] at hcall
      cases hb : (f st c).1 with
      | true =>
        rw [hb, if_pos rfl] at hst2
        rw [hb] at hcall
        have Hn := Lib.hid (show R.1 = i + 1 + (runS f (f st c).2 (s.data.toList.drop (i + 1))).1 ∧ R.2 = (runS f (f st c).2 (s.data.toList.drop (i + 1))).2 from ⟨by rw [hst2.1]; simp only; omega, hst2.2⟩)
        clear hst hst2 hI hdr hb H0
        obtain ⟨st2, hst2⟩ : ∃ x, (f st c).2 = x := ⟨_, rfl⟩
        rw [hst2] at hcall Hn
        clear hst2
        go_wp2_with (go_at_fn g; refine hcall.mono ?_; rintro e w1 ⟨rfl, hi1, hw1⟩)
        have hb1 := hbr.trans hw1
        have HI := Lib.hid hi1
        clear hcall hw1 hbr hi1
        go_roundw
        case rel => exact ⟨i + 1, st2, by omega, by go_num, Hn, HI, hb1⟩
        case measure => simp [intOf]; omega
      | false =>
        rw [hb, if_neg (by simp)] at hst2
        rw [hb] at hcall
        have Hn := Lib.hid (show R.1 = i ∧ R.2 = (f st c).2 from ⟨by rw [hst2.1]; rfl, hst2.2⟩)
        clear hst hst2 hI hdr hb H0
        obtain ⟨st2, hst2⟩ : ∃ x, (f st c).2 = x := ⟨_, rfl⟩
        rw [hst2] at hcall Hn
        clear hst2
        go_wp2_with (go_at_fn g; refine hcall.mono ?_; rintro e w1 ⟨rfl, hi1, hw1⟩)
        have hb1 := hbr.trans hw1
        have HI := Lib.hid hi1
        clear hcall hw1 hbr hi1
        go_ret
        exact ⟨by rw [Hn.out.1]; rfl, ⟨i + 1, by omega, by rw [Hn.out.2]; exact HI.out⟩, hb1⟩
    · obtain rfl : i = s.size := by omega
      have hst2 := hst.out
      rw [List.drop_of_length_le (by rw [hl]; exact Nat.le_refl _)] at hst2
      have Hn := Lib.hid (show R.1 = s.size ∧ R.2 = st from ⟨by rw [hst2.1]; rfl, hst2.2⟩)
      clear hst hst2 H0
      go_wp2
      go_ret
      exact ⟨by rw [Hn.out.1]; rfl, ⟨s.size, by omega, by rw [Hn.out.2]; exact hI.out⟩, hbr⟩

/-- A question that stays as it is, and changes nothing. -/
def AskC (g : Nat) (lb : Array Value) (p : UInt8 → Bool) (W : World) : Prop := ∀ c : UInt8, Calls Tryd.prog g (#[.int .u8 (c.toNat : Int)] ++ lb) W fun e w' => e = .returned (.bool (p c)) ∧ w' = W
def pureC (p : UInt8 → Bool) (_ : Unit) (c : UInt8) : Bool × Unit := (p c, ())
theorem run_pure (p : UInt8 → Bool) : ∀ l : TextA, l.take (runS (pureC p) () l).1 = l.takeWhile p ∧ l.drop (runS (pureC p) () l).1 = l.dropWhile p
  | [] => by simp
  | c :: l => by
    obtain ⟨a, b⟩ := run_pure p l
    have e : runS (pureC p) () (c :: l) = if p c = true then ((runS (pureC p) () l).1 + 1, (runS (pureC p) () l).2) else (0, ()) := rfl
    rw [e, List.takeWhile_cons, List.dropWhile_cons]
    cases hc : p c with
    | true =>
      rw [if_pos rfl, if_pos rfl, if_pos rfl]
      exact ⟨by rw [List.take_succ_cons, a], by rw [List.drop_succ_cons, b]⟩
    | false =>
      rw [if_neg (by simp), if_neg (by simp), if_neg (by simp)]
      exact ⟨rfl, rfl⟩
theorem run_all (p : UInt8 → Bool) : ∀ l : TextA, decide ((runS (pureC p) () l).1 = l.length) = l.all p
  | [] => rfl
  | c :: l => by
    have ih := run_all p l
    have e : runS (pureC p) () (c :: l) = if p c = true then ((runS (pureC p) () l).1 + 1, (runS (pureC p) () l).2) else (0, ()) := rfl
    rw [e, List.all_cons]
    cases hc : p c with
    | true =>
      rw [if_pos rfl, ← ih, Bool.true_and, List.length_cons]
      congr 1
      exact propext ⟨fun h => by simp only at h; omega, fun h => by simp only; omega⟩
    | false =>
      rw [if_neg (by simp), Bool.false_and]
      exact decide_eq_false (by simp)
theorem ask_pure {g : Nat} {lb : Array Value} {p : UInt8 → Bool} (w : World) (n : Nat) (h : ∀ W, AskC g lb p W) (B : Nat) : AskS g lb (pureC p) (fun _ _ W => W = w) B n := fun i st W c _ hI => by
  refine (h W c).mono ?_
  rintro e w' ⟨rfl, rfl⟩
  exact ⟨rfl, hI, Below.refl _ _⟩
theorem crunof_pure (g : Nat) (lb : Array Value) (eg : ∀ args w, (callFunc g args).run Tryd.prog w = .ok (.enter g args) w) (p : UInt8 → Bool) (hask : ∀ W, AskC g lb p W) (s : ByteArray) (w : World) (hs : s.size ≤ 1000000000) :
    Calls Tryd.prog 43 #[.string s, .func (.func g) #[] lb] w fun e w' => e = .returned (.int .i64 ((runS (pureC p) () s.data.toList).1 : Int)) ∧ w' = w :=
  (crunof_any g lb eg (pureC p) (fun _ _ W => W = w) 0 () s w (ask_pure w _ hask 0) rfl hs).mono fun e w' ⟨he, ⟨_, _, hI⟩, _⟩ => ⟨he, hI⟩
theorem enter_tok : ∀ args w, (callFunc 48 args).run Tryd.prog w = .ok (.enter 48 args) w := enters_of Tryd.func48 (by kernel_rfl) rfl
theorem enter_nameC : ∀ args w, (callFunc 53 args).run Tryd.prog w = .ok (.enter 53 args) w := enters_of Tryd.func53 (by kernel_rfl) rfl
theorem enter_value : ∀ args w, (callFunc 57 args).run Tryd.prog w = .ok (.enter 57 args) w := enters_of Tryd.func57 (by kernel_rfl) rfl
theorem enter_gap : ∀ args w, (callFunc 37 args).run Tryd.prog w = .ok (.enter 37 args) w := enters_of Tryd.func37 (by kernel_rfl) rfl
theorem enter_text : ∀ args w, (callFunc 41 args).run Tryd.prog w = .ok (.enter 41 args) w := enters_of Tryd.func41 (by kernel_rfl) rfl
theorem ask_tok (W : World) : AskC 48 #[] tokC W := fun c => cintok_any c W
theorem ask_nameC (W : World) : AskC 53 #[] inNameC W := fun c => cinname_any c W
theorem ask_value (W : World) : AskC 57 #[] nameCA W := fun c => cinvalue_any c W
theorem ask_gap (W : World) : AskC 37 #[] gapC W := fun c => cingap_any c W
theorem ask_text (W : World) : AskC 41 #[] (fun _ => true) W := fun c => cintext_any c W
set_option maxRecDepth 100000 in
theorem cisall_any (g : Nat) (eg : ∀ args w, (callFunc g args).run Tryd.prog w = .ok (.enter g args) w) (p : UInt8 → Bool) (hask : ∀ W, AskC g #[] p W) (s : ByteArray) (w : World) (hs : s.size ≤ 1000000000) :
    Calls Tryd.prog 47 #[.string s, .func (.func g) #[] #[]] w fun e w' => e = .returned (.bool (s.data.toList.all p)) ∧ w' = w := by
  have hr := crunof_pure g #[] eg p hask s w hs
  have e := run_all p s.data.toList
  obtain ⟨n, hn⟩ : ∃ n, (runS (pureC p) () s.data.toList).1 = n := ⟨_, rfl⟩
  rw [hn] at hr e
  rw [← e]
  have e2 : ((n : Int) == (s.size : Int)) = decide (n = s.data.toList.length) := by
    show decide ((n : Int) = (s.size : Int)) = decide (n = s.size)
    exact decide_eq_decide.2 (by omega)
  rw [← e2]
  clear e e2 hn
  go_enter Tryd.func47, Tryd.ntmps47
  go_wp2_with (go_at_call 43; refine hr.mono ?_; rintro e w1 ⟨rfl, h9⟩; obtain rfl := h9.symm)
  go_ret
  exact ⟨rfl, rfl⟩
set_option maxRecDepth 100000 in
theorem cistok_any (s : ByteArray) (w : World) : Calls Tryd.prog 33 #[.string s] w fun e w' => e = .returned (.bool (tokT s.data.toList)) ∧ w' = w := by
  unfold tokT
  rw [show s.data.toList.length = s.size from rfl]
  by_cases h1 : 1 ≤ s.size
  · by_cases h2 : s.size ≤ 64
    · have hc := cisall_any 48 enter_tok tokC ask_tok s w (by omega)
      obtain ⟨L, hL⟩ : ∃ L, s.data.toList.all tokC = L := ⟨_, rfl⟩
      rw [hL] at hc ⊢
      clear hL
      rw [decide_eq_true h1, decide_eq_true h2, Bool.true_and, Bool.true_and]
      go_enter Tryd.func33, Tryd.ntmps33
      go_wp2_with (go_at_call 47; refine hc.mono ?_; rintro e w1 ⟨rfl, h9⟩; obtain rfl := h9.symm)
      go_ret
      exact ⟨rfl, rfl⟩
    · rw [decide_eq_false h2, Bool.false_and, Bool.and_false]
      go_enter Tryd.func33, Tryd.ntmps33
      go_wp2
      go_ret
      exact ⟨rfl, rfl⟩
  · rw [decide_eq_false h1, Bool.false_and]
    go_enter Tryd.func33, Tryd.ntmps33
    go_wp2
    go_ret
    exact ⟨rfl, rfl⟩
set_option maxRecDepth 100000 in
theorem crightv_any (s : ByteArray) (w : World) : Calls Tryd.prog 49 #[.string s] w fun e w' => e = .returned (.bool (valT s.data.toList)) ∧ w' = w := by
  unfold valT
  rw [show s.data.toList.length = s.size from rfl]
  by_cases h2 : s.size ≤ 70
  · have hc := cisall_any 57 enter_value nameCA ask_value s w (by omega)
    obtain ⟨L, hL⟩ : ∃ L, s.data.toList.all nameCA = L := ⟨_, rfl⟩
    rw [hL] at hc ⊢
    clear hL
    rw [decide_eq_true h2, Bool.true_and]
    go_enter Tryd.func49, Tryd.ntmps49
    go_wp2_with (go_at_call 47; refine hc.mono ?_; rintro e w1 ⟨rfl, h9⟩; obtain rfl := h9.symm)
    go_ret
    exact ⟨rfl, rfl⟩
  · rw [decide_eq_false h2, Bool.false_and]
    go_enter Tryd.func49, Tryd.ntmps49
    go_wp2
    go_ret
    exact ⟨rfl, rfl⟩
end Go.Proofs.YtafpifpgfpkckaaDoor
