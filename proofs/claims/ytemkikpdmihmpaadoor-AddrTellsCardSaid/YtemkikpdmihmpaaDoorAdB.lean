/-
  What addr.cutRun comes to, whatever question of a byte it is handed; orDot's closure.
-/
import Derived.Test.YtemkikpdmihmpaaDoorAdA
import Derived.Test.YtemkikpdmihmpaaDoorGlue
import Derived.Test.YtemkikpdmihmpaaDoorConv
import Derived.Test.YtemkikpdmihmpaaDoorTurn
import Derived.Test.YtemkikpdmihmpaaDoorKept
namespace Go.Proofs.YtemkikpdmihmpaaDoor
open Go.RowKit

/-- What a question of a byte tells, where it is asked: it changes nothing. -/
def AskA (g : Nat) (lb : Array Value) (p : UInt8 → Bool) (W : World) : Prop := ∀ c : UInt8, Calls Tryd.prog g (#[.int .u8 (c.toNat : Int)] ++ lb) W fun e w' => e = .returned (.bool (p c)) ∧ w' = W
theorem ask_atom (W : World) : AskA 29 #[] atomC W := fun c => ainatom_any c W
theorem ask_dom (W : World) : AskA 30 #[] domC W := fun c => aindom_any c W
theorem ask_name (W : World) : AskA 42 #[] nameCA W := fun c => ainname_any c W
theorem enter_atom : ∀ args w, (callFunc 29 args).run Tryd.prog w = .ok (.enter 29 args) w := enters_of Tryd.func29 (by kernel_rfl) rfl
theorem enter_dom : ∀ args w, (callFunc 30 args).run Tryd.prog w = .ok (.enter 30 args) w := enters_of Tryd.func30 (by kernel_rfl) rfl
theorem enter_name : ∀ args w, (callFunc 42 args).run Tryd.prog w = .ok (.enter 42 args) w := enters_of Tryd.func42 (by kernel_rfl) rfl
theorem enter_ordot : ∀ args w, (callFunc 81 args).run Tryd.prog w = .ok (.enter 81 args) w := enters_of Tryd.func81 (by kernel_rfl) rfl
theorem run_at (p : UInt8 → Bool) : ∀ (l : TextA) (i : Nat), (∀ j (h : j < l.length), j < i → p l[j] = true) → (∀ h : i < l.length, p l[i] = false) → l.takeWhile p = l.take i ∧ l.dropWhile p = l.drop i
  | [], i, _, _ => by simp
  | c :: l, 0, _, h2 => by
    have hc : p c = false := h2 (by simp)
    simp [hc]
  | c :: l, i + 1, h1, h2 => by
    have hc : p c = true := h1 0 (by simp) (by omega)
    obtain ⟨a, b⟩ := run_at p l i (fun j h hj => h1 (j + 1) (by simp; omega) (by omega)) (fun h => h2 (by simp; omega))
    simp [hc, a, b]

set_option maxRecDepth 100000 in
set_option maxHeartbeats 2000000 in
theorem acutrun_any (g : Nat) (lb : Array Value) (eg : ∀ args w, (callFunc g args).run Tryd.prog w = .ok (.enter g args) w) (p : UInt8 → Bool) (s : ByteArray) (w : World) (hask : AskA g lb p w) (hs : s.size ≤ 1000000000) :
    Calls Tryd.prog 41 #[.string s, .func (.func g) #[] lb] w fun e w' => e = .returned (.tuple #[.string (textQ (s.data.toList.takeWhile p)), .string (textQ (s.data.toList.dropWhile p))]) ∧ Below w.heap.size w w' := by
  have hrun := run_at p s.data.toList
  have HR := Lib.hid hrun
  have HA := Lib.hid hask
  clear hrun hask
  go_enter Tryd.func41, Tryd.ntmps41
  go_wp2
  go_loop [6] (fun iv => ∃ i : Nat, i ≤ s.size ∧ iv = .int .i64 i ∧ Hid (∀ j (h : j < s.data.toList.length), j < i → p s.data.toList[j] = true)) (fun iv => s.size - (intOf iv).toNat)
  case atStart => exact ⟨0, by omega, rfl, Lib.hid (fun j _ h => by omega)⟩
  case round =>
    obtain ⟨i, hi, rfl, hj⟩ := hrel
    have e1 : s.extract 0 i = textQ (s.data.toList.take i) := by rw [cut_text]; simp
    have e2 : s.extract i s.size = textQ (s.data.toList.drop i) := by
      rw [cut_text]
      congr 1
      rw [List.take_of_length_le (by rw [List.length_drop]; exact Nat.le_refl _)]
    have c1 : (i : Int) ≤ (s.size : Int) := by omega
    have E1 := Lib.hid e1
    have E2 := Lib.hid e2
    clear e1 e2
    by_cases hlt : i < s.size
    · have hq := HA.out s[i]
      have hyes : Hid (p s[i] = true → ∀ j (h : j < s.data.toList.length), j < i + 1 → p s.data.toList[j] = true) := Lib.hid fun h j h1 h3 => by
        rcases Nat.lt_or_ge j i with h4 | h4
        · exact hj.out j h1 h4
        · obtain rfl : j = i := by omega
          exact h
      have hno : Hid (p s[i] = false → s.data.toList.takeWhile p = s.data.toList.take i ∧ s.data.toList.dropWhile p = s.data.toList.drop i) := Lib.hid fun h => HR.out i hj.out (fun _ => h)
      obtain ⟨b, hb⟩ : ∃ b, p s[i] = b := ⟨_, rfl⟩
      rw [hb] at hq hyes hno
      clear hb hj
      cases b with
      | true =>
        have Hy := Lib.hid (hyes.out rfl)
        clear hyes hno
        go_wp2_with (go_at_fn g; refine hq.mono ?_; rintro e w1 ⟨rfl, h9⟩; obtain rfl := h9.symm)
        go_round
        case rel => exact ⟨i + 1, by omega, by go_num, Hy⟩
        case measure => simp [intOf]; omega
      | false =>
        have Hn := Lib.hid (hno.out rfl)
        clear hyes hno
        go_wp2_with (go_at_fn g; refine hq.mono ?_; rintro e w1 ⟨rfl, h9⟩; obtain rfl := h9.symm)
        go_quiet (fail)
        have hb2 := below_drewN (Below.refl w.heap.size w) nq
        go_wp2
        go_ret2
        exact ⟨by rw [Hn.out.1, Hn.out.2, ← E1.out, ← E2.out]; rfl, hb2⟩
    · have Hn := Lib.hid (HR.out i hj.out (fun h => absurd h (by show ¬ i < s.size; omega)))
      clear hj
      go_wp2
      go_quiet (fail)
      have hb2 := below_drewN (Below.refl w.heap.size w) nq
      go_wp2
      go_ret2
      exact ⟨by rw [Hn.out.1, Hn.out.2, ← E1.out, ← E2.out]; rfl, hb2⟩
/-- The box that orDot's closure holds. -/
theorem ask_ordot (g : Nat) (eg : ∀ args w, (callFunc g args).run Tryd.prog w = .ok (.enter g args) w) (p : UInt8 → Bool) (B : Nat) (W : World) (hB : Boxed W B 70 (.func (.func g) #[] #[])) (hask : AskA g #[] p W) :
    AskA 81 #[.pointer (some ⟨B, 0, none⟩)] (orDotA p) W := by
  intro c
  have hq := hask c
  have cb := hB.cell
  unfold orDotA
  clear hask hB
  show Calls Tryd.prog 81 #[.int .u8 (c.toNat : Int), .pointer (some ⟨B, 0, none⟩)] W _
  by_cases h1 : c.toNat = 46
  · have e : (c == 46) = true := by rw [beq_iff_eq]; exact UInt8.toNat_inj.1 h1
    rw [e]
    have f1 : ((c.toNat : Int) == (((⟨#[46]⟩ : ByteArray)[0]'(by decide)).toNat : Int)) = true := by rw [beq_iff_eq]; show (c.toNat : Int) = 46; omega
    clear h1 e
    go_enter Tryd.func81, Tryd.ntmps81
    go_wp2
    go_ret
    exact ⟨rfl, rfl⟩
  · have e : (c == 46) = false := by rw [beq_eq_false_iff_ne]; exact fun e => h1 (by rw [e]; rfl)
    rw [e, Bool.false_or]
    have f1 : ((c.toNat : Int) == (((⟨#[46]⟩ : ByteArray)[0]'(by decide)).toNat : Int)) = false := by rw [beq_eq_false_iff_ne]; show ¬ (c.toNat : Int) = 46; omega
    clear h1 e
    go_enter Tryd.func81, Tryd.ntmps81
    go_wp2_with (go_at_fn g; refine hq.mono ?_; rintro e w1 ⟨rfl, h9⟩; obtain rfl := h9.symm)
    go_ret
    exact ⟨rfl, rfl⟩
theorem aordot_any (g : Nat) (w : World) : Calls Tryd.prog 66 #[.func (.func g) #[] #[]] w fun e w' => e = .returned (.func (.func 81) #[] #[.pointer (some ⟨w.heap.size, 0, none⟩)]) ∧ w' = w.alloc (.cells #[.func (.func g) #[] #[]] 70) := by
  have hmf : ∀ (fn : Fn) (first cap : Array Value) (w : World), (Instr.makeFunc fn first cap).run Tryd.prog w = .ok (.func fn first cap) w := fun _ _ _ _ => rfl
  go_enter Tryd.func66, Tryd.ntmps66
  go_wp2
  go_ret
  exact ⟨rfl, rfl⟩
end Go.Proofs.YtemkikpdmihmpaaDoor
