/-
  What ctype's taker comes to: the first bytes that a question lets through are taken, whatever the question; one; readName.
-/
import Derived.Test.YtafpifpgfpkckaaDoorCtD
import Derived.Lib.Case
namespace Go.Proofs.YtafpifpgfpkckaaDoor
open Go.RowKit

/-- Below B, but for the taker's block T, the world w' is as w was. -/
structure TakeK (T B : Nat) (w w' : World) : Prop where
  os : w'.os = w.os
  tape : w'.tape = w.tape
  output : w'.output = w.output
  size : w.heap.size ≤ w'.heap.size
  block : ∀ k, k < B → k ≠ T → w'.heap[k]? = w.heap[k]?
section
variable {T B M : Nat} {u w w' : World}
theorem TakeK.of (h : Below B w w') : TakeK T B w w' := ⟨h.os, h.tape, h.output, h.size, fun k hk _ => h.block k hk⟩
theorem TakeK.refl (T B : Nat) (w : World) : TakeK T B w w := .of (Below.refl _ _)
theorem TakeK.trans (h : TakeK T B u w) (k : TakeK T B w w') : TakeK T B u w' :=
  ⟨k.os.trans h.os, k.tape.trans h.tape, k.output.trans h.output, Nat.le_trans h.size k.size, fun i hi hne => (k.block i hi hne).trans (h.block i hi hne)⟩
theorem TakeK.mono (h : TakeK T B w w') (hM : M ≤ B) : TakeK T M w w' := ⟨h.os, h.tape, h.output, h.size, fun k hk => h.block k (Nat.lt_of_lt_of_le hk hM)⟩
theorem TakeK.set (h : TakeK T B u w) (v : Value) : TakeK T B u (w.setCell ⟨T, 0, none⟩ v) :=
  h.trans ⟨rfl, rfl, rfl, by simp [World.setCell], fun k _ hne => Below.heap_setCell _ ⟨T, 0, none⟩ _ _ hne⟩
theorem TakeK.below (h : TakeK T B w w') (hM : M ≤ B) (hT : M ≤ T) : Below M w w' := ⟨h.os, h.tape, h.output, h.size, fun k hk => h.block k (by omega) (by omega)⟩
theorem TakeK.heap {k : Nat} {o : Obj} (h : TakeK T B w w') (ho : w.heap[k]? = some o) (hk : k < B) (hne : k ≠ T) : w'.heap[k]? = some o := (h.block k hk hne).trans ho
theorem TakeK.box {b : Nat} {t : TypeId} {v : Value} (h : TakeK T B w w') (hb : Boxed w b t v) (hk : b < B) (hne : b ≠ T) : Boxed w' b t v := h.heap hb hk hne
theorem TakeK.cell (h : TakeK T B w w') {p : Addr} (hp : p.block < B) (hne : p.block ≠ T) : w'.cell? p = w.cell? p := World.cell?_of_block (w := w) (h.block p.block hp hne)
end
/-- The taker of the text that lies in block T. -/
def takeV (T : Nat) : Value := .func (.func 42) #[] #[.pointer (some ⟨T, 0, none⟩)]
theorem enter_take : ∀ args w, (callFunc 42 args).run Tryd.prog w = .ok (.enter 42 args) w := enters_of Tryd.func42 (by kernel_rfl) rfl
theorem enter_one : ∀ args w, (callFunc 54 args).run Tryd.prog w = .ok (.enter 54 args) w := enters_of Tryd.func54 (by kernel_rfl) rfl

set_option maxRecDepth 100000 in
set_option maxHeartbeats 2000000 in
theorem ctake_gen {σ : Type} (g : Nat) (lb : Array Value) (eg : ∀ args w, (callFunc g args).run Tryd.prog w = .ok (.enter g args) w) (f : σ → UInt8 → Bool × σ) (I : Nat → σ → World → Prop) (B : Nat) (st0 : σ) (T : Nat) (s : TextA) (w : World)
    (hT : Boxed w T 9 (.string (textQ s))) (hTB : T < B) (hask : AskS g lb f I B (s.length + 1)) (h0 : I 0 st0 w) (hI : ∀ j st W v, (∃ x, Boxed W T 9 x) → I j st W → I j st (W.setCell ⟨T, 0, none⟩ v)) (hs : s.length ≤ 1000000000) :
    Calls Tryd.prog 42 #[.func (.func g) #[] lb, .pointer (some ⟨T, 0, none⟩)] w fun e w' => e = .returned (.string (textQ (s.take (runS f st0 s).1))) ∧ Boxed w' T 9 (.string (textQ (s.drop (runS f st0 s).1))) ∧ (∃ j, j ≤ s.length + 1 ∧ I j (runS f st0 s).2 w') ∧ TakeK T B w w' := by
  have hr := crunof_any g lb eg f I B st0 (textQ s) w hask h0 hs
  rw [show (textQ s).data.toList = s from rfl] at hr
  have hle := run_le f s st0
  obtain ⟨R, hR⟩ : ∃ R, runS f st0 s = R := ⟨_, rfl⟩
  rw [hR] at hr hle ⊢
  obtain ⟨n, st⟩ := R
  simp only at hr hle ⊢
  obtain ⟨S, hS⟩ : ∃ S, textQ s = S := ⟨_, rfl⟩
  have hSz : S.size = s.length := by rw [← hS]; rfl
  have hSd : S.data.toList = s := by rw [← hS]; rfl
  have e1 : S.extract 0 n = textQ (s.take n) := by rw [cut_text, hSd]; simp
  have e2 : S.extract n S.size = textQ (s.drop n) := by
    rw [cut_text, hSd]
    congr 1
    rw [List.take_of_length_le (by rw [List.length_drop, hSz]; exact Nat.le_refl _)]
  rw [hS] at hr hT
  have c1 := hT.cell
  have f1 := hT.frozen
  have hn : (n : Int) ≤ (S.size : Int) := by omega
  have HT := Lib.hid hT
  have HI := Lib.hid hI
  have E1 := Lib.hid e1
  have E2 := Lib.hid e2
  have Hs := Lib.hid (And.intro hSz hle)
  clear hask h0 hR hS hT hSd e1 e2 hI hSz hle
  go_enter Tryd.func42, Tryd.ntmps42
  go_wp2_with fail
  refine hr.mono ?_
  rintro e w1 ⟨rfl, ⟨j, hj, hij⟩, hw1⟩
  have hb1 : Boxed w1 T 9 (.string S) := (hw1.block T hTB).trans HT.out
  have c2 := hb1.cell
  have f2 := hb1.frozen
  have F := Lib.hid (show Boxed (w1.setCell ⟨T, 0, none⟩ (.string (S.extract n S.size))) T 9 (.string (S.extract n S.size)) ∧ I j st (w1.setCell ⟨T, 0, none⟩ (.string (S.extract n S.size))) ∧ TakeK T B w (w1.setCell ⟨T, 0, none⟩ (.string (S.extract n S.size))) from ⟨hb1.set _, HI.out j st w1 _ ⟨_, hb1⟩ hij, (TakeK.of hw1).set _⟩)
  have hj2 : j ≤ s.length + 1 := by have := Hs.out.1; omega
  clear hr hij hw1 hb1 hj
  go_wp2
  go_ret
  obtain ⟨q1, q2, q3⟩ := F.out
  refine ⟨?_, ?_, ⟨j, hj2, q2⟩, q3⟩
  · rw [← E1.out]
    rfl
  · rw [← E2.out]
    exact q1
theorem ctake_pure (g : Nat) (eg : ∀ args w, (callFunc g args).run Tryd.prog w = .ok (.enter g args) w) (p : UInt8 → Bool) (hask : ∀ W, AskC g #[] p W) (T : Nat) (s : TextA) (w : World)
    (hT : Boxed w T 9 (.string (textQ s))) (hs : s.length ≤ 1000000000) :
    Calls Tryd.prog 42 #[.func (.func g) #[] #[], .pointer (some ⟨T, 0, none⟩)] w fun e w' => e = .returned (.string (textQ (s.takeWhile p))) ∧ Boxed w' T 9 (.string (textQ (s.dropWhile p))) ∧ TakeK T w.heap.size w w' := by
  have h := ctake_gen g #[] eg (pureC p) (fun _ _ _ => True) w.heap.size () T s w hT hT.lt (fun i st W c _ _ => (hask W c).mono fun e w' ⟨he, hw⟩ => ⟨he, trivial, by rw [hw]; exact Below.refl _ _⟩) trivial (fun _ _ _ _ _ _ => trivial) hs
  obtain ⟨a, b⟩ := run_pure p s
  rw [a, b] at h
  exact h.mono fun e w' ⟨h1, h2, _, h3⟩ => ⟨h1, h2, h3⟩

/-- One byte, if it comes first. -/
def oneS (want : UInt8) (op : Bool) (c : UInt8) : Bool × Bool := (op && (c == want), false)
theorem run_one (c : UInt8) (s : TextA) : (s.take (runS (oneS c) true s).1).isEmpty = !((cutA c s).isSome) ∧ s.drop (runS (oneS c) true s).1 = (cutA c s).getD s := by
  cases s with
  | nil => exact ⟨rfl, rfl⟩
  | cons d r =>
    rw [cutA_cons]
    by_cases hd : d = c
    · subst hd
      have e : runS (oneS d) true (d :: r) = ((runS (oneS d) false r).1 + 1, (runS (oneS d) false r).2) := by
        rw [runS, if_pos (by simp [oneS])]
        rfl
      have e2 : (runS (oneS d) false r).1 = 0 := by
        cases r with
        | nil => rfl
        | cons x r =>
          rw [runS, if_neg (by simp [oneS])]
      rw [e, e2, if_pos rfl]
      exact ⟨rfl, rfl⟩
    · have e : runS (oneS c) true (d :: r) = (0, false) := by
        rw [runS, if_neg (by simp [oneS, hd])]
        rfl
      rw [e, if_neg hd]
      exact ⟨rfl, rfl⟩
set_option maxRecDepth 100000 in
theorem cone1_any (want : UInt8) (O N B : Nat) (op : Bool) (c : UInt8) (w : World) (hO : Boxed w O 4 (.bool op)) (hN : Boxed w N 5 (.int .u8 (want.toNat : Int))) (hB : B ≤ O) :
    Calls Tryd.prog 54 #[.int .u8 (c.toNat : Int), .pointer (some ⟨O, 0, none⟩), .pointer (some ⟨N, 0, none⟩)] w fun e w' => e = .returned (.bool (op && (c == want))) ∧ (Boxed w' O 4 (.bool false) ∧ Boxed w' N 5 (.int .u8 (want.toNat : Int))) ∧ Below B w w' := by
  have c1 := hO.cell
  have f1 := hO.frozen
  have c2 := hN.cell
  have hne : N ≠ O := by
    rintro rfl
    have h1 : w.heap[N]? = some (.cells #[.bool op] 4 (0, 0)) := hO
    have h2 : w.heap[N]? = some (.cells #[.int .u8 (want.toNat : Int)] 5 (0, 0)) := hN
    rw [h1] at h2
    simp at h2
  have F := Lib.hid (And.intro (hO.set (.bool false)) (And.intro (hN.other hne (.bool false)) ((Below.refl B w).setCell (p := ⟨O, 0, none⟩) hB (.bool false))))
  have hcw : ((c.toNat : Int) == (want.toNat : Int)) = (c == want) := by
    by_cases h : c = want
    · subst h
      simp
    · rw [beq_eq_false_iff_ne.2 h, beq_eq_false_iff_ne]
      exact fun e => h (UInt8.toNat_inj.1 (by omega))
  clear hO hN
  cases op with
  | true =>
    rw [Bool.true_and, ← hcw]
    clear hcw
    go_enter Tryd.func54, Tryd.ntmps54
    go_wp2
    go_ret
    exact ⟨rfl, ⟨F.out.1, F.out.2.1⟩, F.out.2.2⟩
  | false =>
    rw [Bool.false_and]
    clear hcw
    go_enter Tryd.func54, Tryd.ntmps54
    go_wp2
    go_ret
    exact ⟨rfl, ⟨F.out.1, F.out.2.1⟩, F.out.2.2⟩

set_option maxRecDepth 100000 in
set_option maxHeartbeats 2000000 in
theorem cone_any (c : UInt8) (T : Nat) (s : TextA) (w : World) (hT : Boxed w T 9 (.string (textQ s))) (hs : s.length ≤ 1000000000) :
    Calls Tryd.prog 39 #[takeV T, .int .u8 (c.toNat : Int)] w fun e w' => e = .returned (.bool (cutA c s).isSome) ∧ Boxed w' T 9 (.string (textQ ((cutA c s).getD s))) ∧ TakeK T w.heap.size w w' := by
  have hmf : ∀ (fn : Fn) (first cap : Array Value) (w : World), (Instr.makeFunc fn first cap).run Tryd.prog w = .ok (.func fn first cap) w := fun _ _ _ _ => rfl
  have het := enter_take
  obtain ⟨w0, hw0⟩ : ∃ w0, (w.alloc (.cells #[.int .u8 (c.toNat : Int)] 5)).alloc (.cells #[.bool true] 4) = w0 := ⟨_, rfl⟩
  have l0 : Below w.heap.size w w0 := by rw [← hw0]; exact ((Below.refl _ _).alloc (Nat.le_refl _) _).alloc (by simp) _
  have xN : Boxed w0 w.heap.size 5 (.int .u8 (c.toNat : Int)) := by rw [← hw0]; exact (Boxed.new _ _ _).alloc _
  have xO : Boxed w0 (w.heap.size + 1) 4 (.bool true) := by
    rw [← hw0]
    have := Boxed.new (w.alloc (.cells #[.int .u8 (c.toNat : Int)] 5)) 4 (.bool true)
    rw [World.size_alloc] at this
    exact this
  have hTl := hT.lt
  have hg := ctake_gen 54 #[.pointer (some ⟨w.heap.size + 1, 0, none⟩), .pointer (some ⟨w.heap.size, 0, none⟩)] enter_one (oneS c) (fun _ op W => Boxed W (w.heap.size + 1) 4 (.bool op) ∧ Boxed W w.heap.size 5 (.int .u8 (c.toNat : Int))) w.heap.size true T s w0 (boxed_below hT l0) hTl
    (fun i op W d _ ⟨h1, h2⟩ => cone1_any c (w.heap.size + 1) w.heap.size w.heap.size op d W h1 h2 (by omega)) ⟨xO, xN⟩ (fun j op W v _ ⟨h1, h2⟩ => ⟨h1.other (by omega) _, h2.other (by omega) _⟩) hs
  obtain ⟨e1, e2⟩ := run_one c s
  rw [e2] at hg
  obtain ⟨X, hX⟩ : ∃ X, textQ (s.take (runS (oneS c) true s).1) = X := ⟨_, rfl⟩
  have hXe : X.toList.isEmpty = !((cutA c s).isSome) := by
    rw [← hX, Lib.toList_data]
    exact e1
  have hcall : Calls Tryd.prog 42 #[.func (.func 54) #[] #[.pointer (some ⟨w.heap.size + 1, 0, none⟩), .pointer (some ⟨w.heap.size, 0, none⟩)], .pointer (some ⟨T, 0, none⟩)] w0 fun e w' => e = .returned (.string X) ∧ Boxed w' T 9 (.string (textQ ((cutA c s).getD s))) ∧ TakeK T w.heap.size w w' := by
    rw [hX] at hg
    exact hg.mono fun e w' ⟨h1, h2, _, h3⟩ => ⟨h1, h2, (TakeK.of l0).trans h3⟩
  obtain ⟨b, hb⟩ : ∃ b, (cutA c s).isSome = b := ⟨_, rfl⟩
  rw [hb] at hXe ⊢
  obtain ⟨R, hR⟩ : ∃ R, textQ ((cutA c s).getD s) = R := ⟨_, rfl⟩
  rw [hR] at hcall ⊢
  unfold takeV
  clear hT hg e1 e2 hX hb hR xN xO l0 hTl
  cases b with
  | true =>
    rw [Bool.not_true] at hXe
    go_enter Tryd.func39, Tryd.ntmps39
    go_wp2_with (go_at_fn 42; refine hcall.mono ?_; rintro e w1 ⟨rfl, h1, h2⟩)
    go_ret
    exact ⟨rfl, h1, h2⟩
  | false =>
    rw [Bool.not_false] at hXe
    go_enter Tryd.func39, Tryd.ntmps39
    go_wp2_with (go_at_fn 42; refine hcall.mono ?_; rintro e w1 ⟨rfl, h1, h2⟩)
    go_ret
    exact ⟨rfl, h1, h2⟩
theorem name_ascii {c : UInt8} (h : inNameC c = true) : c.toNat < 128 := by
  unfold inNameC tokC lowA at h
  simp only [Bool.or_eq_true, decide_eq_true_eq] at h
  rcases h with h | (h | h) | h
  · omega
  · omega
  · omega
  · have h3 : c ∈ marksC := by simpa using h
    simp only [marksC, List.mem_cons, List.not_mem_nil, or_false] at h3
    rcases h3 with rfl | rfl | rfl | rfl | rfl | rfl | rfl | rfl | rfl <;> decide
theorem take_le (p : UInt8 → Bool) (s : TextA) : (s.takeWhile p).length ≤ s.length := (List.takeWhile_sublist _).length_le

set_option maxRecDepth 100000 in
set_option maxHeartbeats 2000000 in
theorem crdname_any (T : Nat) (s : TextA) (w : World) (hT : Boxed w T 9 (.string (textQ s))) (hs : s.length ≤ 1000000000) :
    Calls Tryd.prog 38 #[takeV T] w fun e w' => e = .returned (.string (textQ (wordC s))) ∧ Boxed w' T 9 (.string (textQ (s.dropWhile inNameC))) ∧ TakeK T w.heap.size w w' := by
  have het := enter_take
  have h1 := ctake_pure 53 enter_nameC inNameC ask_nameC T s w hT hs
  have hl := take_le inNameC s
  have h2 := fun W => Tryd.strings_ToLower_ascii (textQ (s.takeWhile inNameC)) W (by show (s.takeWhile inNameC).length ≤ _; omega) (fun j b hj => name_ascii (by
    have hm : b ∈ s.takeWhile inNameC := List.mem_of_getElem? hj
    exact List.all_eq_true.1 (List.all_takeWhile) b hm))
  have h3 := fun W => sclone_anyC (textQ (wordC s)) W (by show (wordC s).length ≤ _; unfold wordC; rw [List.length_map]; omega)
  have e : (⟨(Lib.toLowerA (textQ (s.takeWhile inNameC)).data.toList).toArray⟩ : ByteArray) = textQ (wordC s) := rfl
  simp only [e] at h2
  have hTl := hT.lt
  obtain ⟨X, hX⟩ : ∃ X, textQ (s.takeWhile inNameC) = X := ⟨_, rfl⟩
  obtain ⟨Y, hY⟩ : ∃ Y, textQ (wordC s) = Y := ⟨_, rfl⟩
  obtain ⟨R, hR⟩ : ∃ R, textQ (s.dropWhile inNameC) = R := ⟨_, rfl⟩
  simp only [hX, hY] at h2
  simp only [hY] at h3
  rw [hX, hR] at h1
  rw [hY, hR]
  unfold takeV
  clear hT hX hY hR e hl
  go_enter Tryd.func38, Tryd.ntmps38
  go_wp2_with fail
  refine h1.mono ?_
  rintro e w1 ⟨rfl, q1, q2⟩
  have Q := Lib.hid (And.intro q1 q2)
  clear h1 q1 q2
  go_wp2_with fail
  refine (h2 _).mono ?_
  rintro e w2 ⟨rfl, hw2⟩
  have Q2 := Lib.hid (show Boxed w2 T 9 (.string R) ∧ TakeK T w.heap.size w w2 from ⟨boxed_below Q.out.1 hw2, Q.out.2.trans (.of (hw2.mono Q.out.2.size))⟩)
  clear h2 hw2 Q
  go_wp2_with fail
  refine (h3 _).mono ?_
  rintro e w3 ⟨rfl, hw3⟩
  have Q3 := Lib.hid (show Boxed w3 T 9 (.string R) ∧ TakeK T w.heap.size w w3 from ⟨boxed_below Q2.out.1 hw3, Q2.out.2.trans (.of (hw3.mono Q2.out.2.size))⟩)
  clear h3 hw3 Q2
  go_wp2
  go_ret
  exact ⟨rfl, Q3.out.1, Q3.out.2⟩
end Go.Proofs.YtafpifpgfpkckaaDoor
