/-
  Texts of this proof, put together: CtG, CtH.
-/
import Derived.Test.YtjikghndoklajaaGreatDoorZ19
import Derived.Test.YtjikghndoklajaaGreatDoorZ11
namespace Go.Proofs.YtjikghndoklajaaGreatDoor
open Go.RowKit

theorem isbuilder_boxC {B b c : Nat} {bs : List Value} {W : World} {t : TypeId} (ht : t ≠ 5) (v : Value) (h : Lib.IsBuilder 113 5 B b bs W) (hc : ∃ x, Boxed W c t x) : Lib.IsBuilder 113 5 B b bs (W.setCell ⟨c, 0, none⟩ v) := by
  rcases h with h | h
  · exact .inl (builder_box ht v h hc)
  · exact .inr (builder_box ht v h hc)
theorem isbuilder_neC {B b c : Nat} {x : Value} {bs : List Value} {W : World} {t : TypeId} (h : Lib.IsBuilder 113 5 B b bs W) (hc : Boxed W c t x) : c ≠ b := by
  rcases h with h | h
  · exact builder_ne h hc
  · exact builder_ne h hc
theorem box_neC {w : World} {C D : Nat} {s t : TypeId} {u v : Value} (hC : Boxed w C s u) (hD : Boxed w D t v) (h : s ≠ t) : C ≠ D := fun e => by
  have hC : w.heap[C]? = some (.cells #[u] s (0, 0)) := hC
  have hD : w.heap[D]? = some (.cells #[v] t (0, 0)) := hD
  rw [e, hD] at hC
  simp at hC
  exact h hC.2.symm
structure HearC (B b C D : Nat) (acc : TextA) (say : Bool) (W : World) : Prop where
  bd : Lib.IsBuilder 113 5 B b (Lib.byteCells acc) W
  xc : Boxed W C 111 (.pointer (some ⟨b, 0, none⟩))
  xd : Boxed W D 4 (.bool say)
  hD : B ≤ D
  hB : B ≤ W.heap.size
theorem HearC.set {B b C D : Nat} {acc : TextA} {say : Bool} {W : World} (h : HearC B b C D acc say W) (v : Bool) : HearC B b C D acc v (W.setCell ⟨D, 0, none⟩ (.bool v)) :=
  ⟨isbuilder_boxC (t := 4) (by decide) _ h.bd ⟨_, h.xd⟩, h.xc.other (box_neC h.xc h.xd (by decide)) _, h.xd.set _, h.hD, by simpa [World.setCell] using h.hB⟩
theorem HearC.take {B b C D T : Nat} {acc : TextA} {say : Bool} {W : World} (h : HearC B b C D acc say W) (hT : ∃ x, Boxed W T 9 x) (v : Value) : HearC B b C D acc say (W.setCell ⟨T, 0, none⟩ v) := by
  obtain ⟨x, hx⟩ := hT
  exact ⟨isbuilder_boxC (t := 9) (by decide) _ h.bd ⟨_, hx⟩, h.xc.other (box_neC h.xc hx (by decide)) _, h.xd.other (box_neC h.xd hx (by decide)) _, h.hD, by simpa [World.setCell] using h.hB⟩
def hearGoC (say : Bool) (c : UInt8) : Bool := say || decide (c ≠ 34)
def hearSayC (say : Bool) (c : UInt8) : Bool := !say && decide (c = 92)
def hearAddC (say : Bool) (c : UInt8) : TextA := if say = true ∨ (c ≠ 92 ∧ c ≠ 34) then [c] else []
def hearS (st : TextA × Bool) (c : UInt8) : Bool × (TextA × Bool) := (hearGoC st.2 c, (st.1 ++ hearAddC st.2 c, hearSayC st.2 c))
theorem hear_run : ∀ (s acc : TextA) (say : Bool), match hearA say acc s with
    | some (v, r) => (runS hearS (acc, say) s).2.1 = v ∧ s.drop (runS hearS (acc, say) s).1 = 34 :: r
    | none => s.drop (runS hearS (acc, say) s).1 = []
  | [], acc, say => by cases say <;> rfl
  | c :: s, acc, true => by
    have ih := hear_run s (acc ++ [c]) false
    rw [hearA]
    have e : runS hearS (acc, true) (c :: s) = ((runS hearS (acc ++ [c], false) s).1 + 1, (runS hearS (acc ++ [c], false) s).2) := by
      rw [runS, if_pos (by rfl)]
      rfl
    rw [e]
    exact ih
  | c :: s, acc, false => by
    rw [hearA]
    by_cases h1 : c = 92
    · subst h1
      rw [if_pos rfl]
      have ih := hear_run s acc true
      have e : runS hearS (acc, false) (92 :: s) = ((runS hearS (acc, true) s).1 + 1, (runS hearS (acc, true) s).2) := by
        rw [runS, if_pos (by rfl)]
        have e2 : (hearS (acc, false) 92).2 = (acc, true) := by
          show (acc ++ [], true) = _
          rw [List.append_nil]
        rw [e2]
      rw [e]
      exact ih
    · rw [if_neg h1]
      by_cases h2 : c = 34
      · subst h2
        rw [if_pos rfl]
        have e : runS hearS (acc, false) (34 :: s) = (0, (acc ++ [], false)) := by
          rw [runS, if_neg (by simp [hearS, hearGoC])]
          rfl
        rw [e, List.append_nil]
        exact ⟨rfl, rfl⟩
      · rw [if_neg h2]
        have ih := hear_run s (acc ++ [c]) false
        have e : runS hearS (acc, false) (c :: s) = ((runS hearS (acc ++ [c], false) s).1 + 1, (runS hearS (acc ++ [c], false) s).2) := by
          rw [runS, if_pos (by simp [hearS, hearGoC, h2])]
          have e2 : (hearS (acc, false) c).2 = (acc ++ [c], false) := by simp [hearS, hearAddC, hearSayC, h1, h2]
          rw [e2]
        rw [e]
        exact ih
theorem hear_add_len (say : Bool) (c : UInt8) : (hearAddC say c).length ≤ 1 := by
  unfold hearAddC
  split <;> simp

set_option maxRecDepth 100000 in
set_option maxHeartbeats 4000000 in
theorem chear1_any (B b C D : Nat) (acc : TextA) (say : Bool) (c : UInt8) (w : World) (h : HearC B b C D acc say w) (hlen : acc.length ≤ 1000000000) :
    Calls Tryz.prog 184 #[.int .u8 (c.toNat : Int), .pointer (some ⟨D, 0, none⟩), .pointer (some ⟨C, 0, none⟩)] w fun e w' => e = .returned (.bool (hearGoC say c)) ∧ HearC B b C D (acc ++ hearAddC say c) (hearSayC say c) w' ∧ Below B w w' := by
  have H := Lib.hid h
  have nC := isbuilder_neC h.bd h.xc
  have nD := isbuilder_neC h.bd h.xd
  have c1 := h.xd.cell
  have f1 := h.xd.frozen
  have h2 := h.set false
  have H2 := Lib.hid h2
  have c2 := h2.xc.cell
  have hBD := h.hD
  have hcall := wbyte_k B b acc c _ h2.bd (by omega) h2.hB
  have hpost : ∀ w3, (Lib.BuilderAt 113 5 B b (.pointer (some ⟨b, 0, none⟩)) (Lib.byteCells (acc ++ [c])) w3 ∧ Below B (w.setCell ⟨D, 0, none⟩ (.bool false)) w3 ∧ Lib.OthersKept 5 (some b) (w.setCell ⟨D, 0, none⟩ (.bool false)) w3 ∧ (w.setCell ⟨D, 0, none⟩ (.bool false)).heap.size ≤ w3.heap.size) → HearC B b C D (acc ++ [c]) false w3 ∧ Below B w w3 := fun w3 ⟨q1, q2, q3, q4⟩ =>
    ⟨⟨.inr q1, kept_box q3 (by decide) nC h2.xc, kept_box q3 (by decide) nD h2.xd, h.hD, Nat.le_trans h2.hB q4⟩, ((Below.refl B w).setCell (p := ⟨D, 0, none⟩) h.hD _).trans q2⟩
  have HP := Lib.hid hpost
  clear h h2 hpost nC nD
  cases say with
  | true =>
    rw [show hearGoC true c = true from rfl, show hearSayC true c = false from rfl, show hearAddC true c = [c] from rfl]
    go_enter Tryz.func184, Tryz.ntmps184
    go_wp2_with (go_at_call 123; refine hcall.mono ?_; rintro e w3 ⟨rfl, hq⟩)
    go_ret
    exact ⟨rfl, HP.out _ hq⟩
  | false =>
    by_cases g1 : c = 92
    · subst g1
      rw [show hearGoC false 92 = true from rfl, show hearSayC false 92 = true from rfl, show hearAddC false 92 = [] from rfl, List.append_nil]
      have H3 := Lib.hid (H.out.set true)
      clear hcall H2 c2 HP
      go_enter Tryz.func184, Tryz.ntmps184
      go_wp2
      go_ret
      exact ⟨rfl, H3.out, (Below.refl B w).setCell (p := ⟨D, 0, none⟩) hBD _⟩
    · have k1 : ((c.toNat : Int) == 92) = false := by
        rw [beq_eq_false_iff_ne]
        exact fun e => g1 (UInt8.toNat_inj.1 (by show c.toNat = 92; omega))
      by_cases g2 : c = 34
      · subst g2
        rw [show hearGoC false 34 = false from rfl, show hearSayC false 34 = false from rfl, show hearAddC false 34 = [] from rfl, List.append_nil]
        clear hcall H2 c2 HP
        go_enter Tryz.func184, Tryz.ntmps184
        go_wp2
        go_ret
        exact ⟨rfl, H.out, Below.refl B w⟩
      · have k2 : ((c.toNat : Int) == 34) = false := by
          rw [beq_eq_false_iff_ne]
          exact fun e => g2 (UInt8.toNat_inj.1 (by show c.toNat = 34; omega))
        rw [show hearGoC false c = true by simp [hearGoC, g2], show hearSayC false c = false by simp [hearSayC, g1], show hearAddC false c = [c] by simp [hearAddC, g1, g2]]
        have c3 := H.out.xc.cell
        have nC := isbuilder_neC H.out.bd H.out.xc
        have nD := isbuilder_neC H.out.bd H.out.xd
        have hcall2 := wbyte_k B b acc c w H.out.bd (by omega) H.out.hB
        clear hcall H2 c2 HP g1 g2
        go_enter Tryz.func184, Tryz.ntmps184
        go_wp2_with (go_at_call 123; refine hcall2.mono ?_; rintro e w3 ⟨rfl, q1, q2, q3, q4⟩)
        go_ret
        exact ⟨rfl, ⟨.inr q1, kept_box q3 (by decide) nC H.out.xc, kept_box q3 (by decide) nD H.out.xd, H.out.hD, Nat.le_trans H.out.hB q4⟩, q2⟩
theorem chearer_any (b : Nat) (w : World) : Calls Tryz.prog 166 #[.pointer (some ⟨b, 0, none⟩)] w fun e w' => e = .returned (.func (.func 184) #[] #[.pointer (some ⟨w.heap.size + 1, 0, none⟩), .pointer (some ⟨w.heap.size, 0, none⟩)]) ∧ w' = (w.alloc (.cells #[.pointer (some ⟨b, 0, none⟩)] 111)).alloc (.cells #[.bool false] 4) := by
  have hmf : ∀ (fn : Fn) (first cap : Array Value) (w : World), (Instr.makeFunc fn first cap).run Tryz.prog w = .ok (.func fn first cap) w := fun _ _ _ _ => rfl
  go_enter Tryz.func166, Tryz.ntmps166
  go_wp2
  go_ret
  exact ⟨rfl, rfl⟩
theorem enter_hear : ∀ args w, (callFunc 184 args).run Tryz.prog w = .ok (.enter 184 args) w := enters_of Tryz.func184 (by kernel_rfl) rfl

def TookV (o : Option (TextA × TextA)) (T : Nat) (e : Ending) (w' : World) : Prop := match o with
  | none => ∃ X R, e = .returned (.tuple #[.string X, .bool false]) ∧ Boxed w' T 9 (.string R)
  | some x => e = .returned (.tuple #[.string (textQ x.1), .bool true]) ∧ Boxed w' T 9 (.string (textQ x.2))

set_option maxRecDepth 100000 in
set_option maxHeartbeats 1000000 in
theorem crdvalue_any (T : Nat) (s : TextA) (w : World) (hT : Boxed w T 9 (.string (textQ s))) (hs : s.length ≤ 100000000) :
    Calls Tryz.prog 142 #[takeV T] w fun e w' => TookV (valueC s) T e w' ∧ TakeK T w.heap.size w w' := by
  have het := enter_take
  have h1 : Calls Tryz.prog 100 #[takeV T, .int .u8 34] w fun e w' => e = .returned (.bool (cutA 34 s).isSome) ∧ Boxed w' T 9 (.string (textQ ((cutA 34 s).getD s))) ∧ TakeK T w.heap.size w w' := cone_any 34 T s w hT (by omega)
  have hTl := hT.lt
  clear hT
  unfold valueC
  cases hq : cutA 34 s with
  | none =>
    rw [hq] at h1
    have h1 : Calls Tryz.prog 100 #[takeV T, .int .u8 34] w fun e w' => e = .returned (.bool false) ∧ Boxed w' T 9 (.string (textQ s)) ∧ TakeK T w.heap.size w w' := h1
    have h2 : Hid (∀ W, Boxed W T 9 (.string (textQ s)) → Calls Tryz.prog 103 #[.func (.func 118) #[] #[], .pointer (some ⟨T, 0, none⟩)] W fun e w' => e = .returned (.string (textQ (s.takeWhile tokC))) ∧ Boxed w' T 9 (.string (textQ (s.dropWhile tokC))) ∧ TakeK T W.heap.size W w') := Lib.hid fun W hW => ctake_pure 118 enter_tok tokC ask_tok T s W hW (by omega)
    have hl := take_le tokC s
    have h3 := fun W => sclone_anyC (textQ (s.takeWhile tokC)) W (by show (s.takeWhile tokC).length ≤ _; omega)
    have h4 := fun W => cistok_any (textQ (s.takeWhile tokC)) W
    simp only [show (textQ (s.takeWhile tokC)).data.toList = s.takeWhile tokC from rfl] at h4
    obtain ⟨X, hX⟩ : ∃ X, textQ (s.takeWhile tokC) = X := ⟨_, rfl⟩
    obtain ⟨R, hR⟩ : ∃ X, textQ (s.dropWhile tokC) = X := ⟨_, rfl⟩
    rw [hX, hR] at h2
    simp only [hX] at h3 h4
    obtain ⟨P, hP⟩ : ∃ P : Ending → World → Prop, TookV (if tokT (s.takeWhile tokC) = true then some (s.takeWhile tokC, s.dropWhile tokC) else none) T = P := ⟨_, rfl⟩
    show Calls _ _ _ _ fun e w' => TookV (if tokT (s.takeWhile tokC) = true then some (s.takeWhile tokC, s.dropWhile tokC) else none) T e w' ∧ _
    rw [hP]
    obtain ⟨b, hb⟩ : ∃ b, tokT (s.takeWhile tokC) = b := ⟨_, rfl⟩
    simp only [hb] at h4
    have HP : Hid (∀ w', Boxed w' T 9 (.string R) → P (.returned (.tuple #[.string X, .bool b])) w') := Lib.hid fun w' hw' => by
      rw [← hP, hb]
      cases b with
      | true =>
        rw [if_pos rfl]
        refine ⟨?_, ?_⟩
        · rw [hX]
        · rw [hR]; exact hw'
      | false =>
        rw [if_neg (by simp)]
        exact ⟨X, R, rfl, hw'⟩
    clear hq hX hR hb hl hP
    unfold takeV at h1 ⊢
    go_enter Tryz.func142, Tryz.ntmps142
    go_wp2_with fail
    refine h1.mono ?_
    rintro e w1 ⟨rfl, q1, q2⟩
    have h21 := h2.out w1 q1
    have Q := Lib.hid q2
    clear h1 h2 q1 q2
    go_wp2_with fail
    refine h21.mono ?_
    rintro e w2 ⟨rfl, q1, q2⟩
    have Q2 := Lib.hid (And.intro q1 (Q.out.trans (q2.mono Q.out.size)))
    clear h21 q1 q2 Q
    go_wp2_with fail
    refine (h3 _).mono ?_
    rintro e w3 ⟨rfl, hw3⟩
    have Q3 := Lib.hid (show Boxed w3 T 9 (.string R) ∧ TakeK T w.heap.size w w3 from ⟨boxed_below Q2.out.1 hw3, Q2.out.2.trans (.of (hw3.mono Q2.out.2.size))⟩)
    clear h3 hw3 Q2
    go_wp2_with fail
    refine (h4 _).mono ?_
    rintro e w4 ⟨rfl, h9⟩
    obtain rfl := h9.symm
    clear h4 h9
    go_wp2
    go_ret2
    exact ⟨HP.out _ Q3.out.1, Q3.out.2⟩
  | some r =>
    rw [hq] at h1
    have h1 : Calls Tryz.prog 100 #[takeV T, .int .u8 34] w fun e w' => e = .returned (.bool true) ∧ Boxed w' T 9 (.string (textQ r)) ∧ TakeK T w.heap.size w w' := h1
    have hrl : r.length ≤ s.length := by
      have := congrArg List.length (cut_lenA hq)
      rw [List.length_cons] at this
      omega
    show Calls _ _ _ _ fun e w' => TookV (hearA false [] r) T e w' ∧ _
    have hrun := hear_run r [] false
    obtain ⟨n, hn⟩ : ∃ n, (runS hearS ([], false) r).1 = n := ⟨_, rfl⟩
    obtain ⟨acc, hacc⟩ : ∃ a, (runS hearS ([], false) r).2.1 = a := ⟨_, rfl⟩
    obtain ⟨say, hsay⟩ : ∃ a, (runS hearS ([], false) r).2.2 = a := ⟨_, rfl⟩
    have hst : (runS hearS ([], false) r).2 = (acc, say) := by rw [← hacc, ← hsay]
    rw [hn, hacc] at hrun
    obtain ⟨A, hA⟩ : ∃ A, textQ acc = A := ⟨_, rfl⟩
    obtain ⟨D, hD⟩ : ∃ D, r.drop n = D := ⟨_, rfl⟩
    rw [hD] at hrun
    obtain ⟨P, hP⟩ : ∃ P : Ending → World → Prop, TookV (hearA false [] r) T = P := ⟨_, rfl⟩
    rw [hP]
    have HP : Hid (∀ w', Boxed w' T 9 (.string (textQ ((cutA 34 D).getD D))) → P (.returned (.tuple #[.string A, .bool (cutA 34 D).isSome])) w') := Lib.hid fun w' hw' => by
      rw [← hP]
      cases hh : hearA false [] r with
      | none =>
        rw [hh] at hrun
        obtain rfl : D = [] := hrun
        exact ⟨A, _, rfl, hw'⟩
      | some x =>
        obtain ⟨v, u⟩ := x
        rw [hh] at hrun
        obtain ⟨rfl, rfl⟩ := hrun
        rw [cutA_cons, if_pos rfl] at hw' ⊢
        exact ⟨by rw [hA]; rfl, hw'⟩
    have hDl : D.length ≤ s.length := by rw [← hD, List.length_drop]; omega
    have h5 : Hid (∀ W, Boxed W T 9 (.string (textQ D)) → Calls Tryz.prog 100 #[takeV T, .int .u8 34] W fun e w' => e = .returned (.bool (cutA 34 D).isSome) ∧ Boxed w' T 9 (.string (textQ ((cutA 34 D).getD D))) ∧ TakeK T W.heap.size W w') := Lib.hid fun W hW => cone_any 34 T D W hW (by omega)
    have h4 : Hid (∀ W b C E, Boxed W T 9 (.string (textQ r)) → HearC w.heap.size b C E [] false W → Calls Tryz.prog 103 #[.func (.func 184) #[] #[.pointer (some ⟨E, 0, none⟩), .pointer (some ⟨C, 0, none⟩)], .pointer (some ⟨T, 0, none⟩)] W fun e w' => (∃ X, e = .returned (.string X)) ∧ Boxed w' T 9 (.string (textQ D)) ∧ (acc.length ≤ 100000001 ∧ HearC w.heap.size b C E acc say w') ∧ TakeK T w.heap.size W w') := Lib.hid fun W b C E hW hH => by
      have := ctake_gen 184 #[.pointer (some ⟨E, 0, none⟩), .pointer (some ⟨C, 0, none⟩)] enter_hear hearS (fun j st W => st.1.length ≤ j ∧ HearC w.heap.size b C E st.1 st.2 W) w.heap.size ([], false) T r W hW hTl
        (fun i st W c hi hI => by
          have h8 := hear_add_len st.2 c
          have h7 := hI.1
          exact (chear1_any w.heap.size b C E st.1 st.2 c W hI.2 (by omega)).mono fun e w' ⟨q1, q2, q3⟩ => ⟨q1, ⟨by show (st.1 ++ hearAddC st.2 c).length ≤ _; rw [List.length_append]; omega, q2⟩, q3⟩) ⟨Nat.le_refl _, hH⟩ (fun j st W v hx hI => ⟨hI.1, hI.2.take hx v⟩) (by omega)
      rw [hn, hst, hD] at this
      exact this.mono fun e w' ⟨q1, q2, ⟨j, hj, q3, q4⟩, q5⟩ => ⟨⟨_, q1⟩, q2, ⟨by simp only at q3; omega, q4⟩, q5⟩
    obtain ⟨b, hb⟩ : ∃ b, (cutA 34 D).isSome = b := ⟨_, rfl⟩
    obtain ⟨R, hR⟩ : ∃ R, textQ ((cutA 34 D).getD D) = R := ⟨_, rfl⟩
    rw [hb, hR] at HP h5
    have HA := Lib.hid hA
    clear hq hn hacc hsay hst hrun hA hP hb hR hD hDl hrl
    have hhe := fun b W => chearer_any b W
    unfold takeV at h1 h5 ⊢
    go_enter Tryz.func142, Tryz.ntmps142
    go_wp2_with fail
    refine h1.mono ?_
    rintro e w1 ⟨rfl, q1, q2⟩
    have hbd := Lib.fresh_isBuilder 113 5 w1
    obtain ⟨w2, hw2⟩ : ∃ w2, w1.alloc (.cells #[.pointer none, .slice none 0 0] 113) = w2 := ⟨_, rfl⟩
    rw [hw2] at hbd
    have l2 : Below w1.heap.size w1 w2 := by rw [← hw2]; exact (Below.refl _ _).alloc (Nat.le_refl _) _
    have z2 : w1.heap.size ≤ w2.heap.size := l2.size
    have h21 := hhe w1.heap.size w2
    obtain ⟨w3, hw3⟩ : ∃ w3, (w2.alloc (.cells #[.pointer (some ⟨w1.heap.size, 0, none⟩)] 111)).alloc (.cells #[.bool false] 4) = w3 := ⟨_, rfl⟩
    rw [hw3] at h21
    have l3 : Below w2.heap.size w2 w3 := by rw [← hw3]; exact ((Below.refl _ _).alloc (Nat.le_refl _) _).alloc (by simp) _
    have xc : Boxed w3 w2.heap.size 111 (.pointer (some ⟨w1.heap.size, 0, none⟩)) := by
      rw [← hw3]
      exact (Boxed.new _ _ _).alloc _
    have xd : Boxed w3 (w2.heap.size + 1) 4 (.bool false) := by
      rw [← hw3]
      have := Boxed.new (w2.alloc (.cells #[.pointer (some ⟨w1.heap.size, 0, none⟩)] 111)) 4 (.bool false)
      rw [World.size_alloc] at this
      exact this
    have hz1 := q2.size
    have hT3 := boxed_below (boxed_below q1 l2) l3
    have hbd3 := isbuilder_below hbd l3
    have hbd4 : Lib.IsBuilder 113 5 w.heap.size w1.heap.size (Lib.byteCells []) w3 := by
      rcases hbd3 with ⟨a1, a2, a3, a4, a5⟩ | ⟨a1, a2, a3, a4, a5⟩
      · exact .inl ⟨by omega, a2, a3, ⟨a4.1, a4.2.imp id fun ⟨g, cap, cur, b1, b2, b3⟩ => ⟨g, cap, cur, b1, by omega, b3⟩⟩, a5⟩
      · exact .inr ⟨by omega, a2, a3, ⟨a4.1, a4.2.imp id fun ⟨g, cap, cur, b1, b2, b3⟩ => ⟨g, cap, cur, b1, by omega, b3⟩⟩, a5⟩
    have h41 := h4.out w3 w1.heap.size w2.heap.size (w2.heap.size + 1) hT3 ⟨hbd4, xc, xd, by omega, by have := l2.size; have := l3.size; omega⟩
    have Q3 := Lib.hid ((q2.trans (.of (l2.mono q2.size))).trans (.of (l3.mono (by omega))))
    clear h1 q1 q2 hbd l2 l3 xc xd hT3 hbd3 hbd4 h4 hhe z2
    go_wp2_with fail
    refine h21.mono ?_
    rintro e w4 ⟨rfl, h9⟩
    obtain rfl := h9.symm
    clear h21 h9
    go_wp2_with fail
    refine h41.mono ?_
    rintro e w5 ⟨⟨X, rfl⟩, q1, ⟨q2, q3⟩, q4⟩
    have hstr := Tryz.Builder_String_any w.heap.size w1.heap.size acc w5 q3.bd q3.hB
    have hstr2 : Calls Tryz.prog 76 #[.pointer (some ⟨w1.heap.size, 0, none⟩)] w5 fun e w' => e = .returned (.string A) ∧ w'.heap.size ≥ w5.heap.size ∧ Below w.heap.size w5 w' := hstr.mono fun e w' ⟨h, hb⟩ => ⟨by rw [h, ← HA.out]; rfl, hb.size, hb⟩
    have Q5 := Lib.hid (And.intro q1 (Q3.out.trans q4))
    clear h41 q1 q2 q3 q4 hstr Q3
    go_wp2_with fail
    refine hstr2.mono ?_
    rintro e w6 ⟨rfl, hz6, hw6⟩
    have hT6 : Boxed w6 T 9 (.string (textQ D)) := (hw6.block T hTl).trans Q5.out.1
    have h51 := h5.out w6 hT6
    have Q6 := Lib.hid (Q5.out.2.trans (.of hw6))
    clear hstr2 hw6 hT6 h5 Q5
    go_wp2_with fail
    refine h51.mono ?_
    rintro e w7 ⟨rfl, q1, q2⟩
    have Q7 := Lib.hid (And.intro (HP.out _ q1) (Q6.out.trans (q2.mono Q6.out.size)))
    clear h51 q1 q2 Q6 HP
    go_wp2
    go_ret2
    exact Q7.out
end Go.Proofs.YtjikghndoklajaaGreatDoor
namespace Go.Proofs.YtjikghndoklajaaGreatDoor
open Go.RowKit

theorem TakeK.put {T B : Nat} {u w : World} (h : TakeK T B u w) {p : Addr} (hp : B ≤ p.block) (v : Value) : TakeK T B u (w.setCell p v) := h.trans (.of ((Below.refl B w).setCell hp v))
theorem ParAt.put {w : World} {B : Nat} {X Y : ByteArray} (h : ParAt w B X Y) (X' Y' : ByteArray) : ParAt ((w.setCell ⟨B, 0, none⟩ (.string X')).setCell ⟨B, 1, none⟩ (.string Y')) B X' Y' := by
  unfold ParAt at h ⊢
  have h1 := heap_setCell_same w B 0 _ _ (.string X') h
  have h2 := heap_setCell_same _ B 1 _ _ (.string Y') h1
  rw [h2]
  rfl
theorem ParAt.name {w : World} {B : Nat} {X Y : ByteArray} (h : ParAt w B X Y) (X' : ByteArray) : ParAt (w.setCell ⟨B, 0, none⟩ (.string X')) B X' Y := by
  unfold ParAt at h ⊢
  rw [heap_setCell_same w B 0 _ _ (.string X') h]
  rfl
theorem ParAt.value {w : World} {B : Nat} {X Y : ByteArray} (h : ParAt w B X Y) (Y' : ByteArray) : ParAt (w.setCell ⟨B, 1, none⟩ (.string Y')) B X Y' := by
  unfold ParAt at h ⊢
  rw [heap_setCell_same w B 1 _ _ (.string Y') h]
  rfl
theorem boxed_set {w : World} {T : Nat} {t : TypeId} {v : Value} (h : Boxed w T t v) {p : Addr} (hp : p.block ≠ T) (u : Value) : Boxed (w.setCell p u) T t v := (Below.heap_setCell w p u T (fun e => hp e.symm)).trans h
def TookP (o : Option (ParC × TextA)) (T : Nat) (e : Ending) (w' : World) : Prop := match o with
  | none => ∃ X Y R, e = .returned (.tuple #[.agg #[.string X, .string Y], .bool false]) ∧ Boxed w' T 9 (.string R)
  | some x => e = .returned (.tuple #[.agg #[.string (textQ x.1.1), .string (textQ x.1.2)], .bool true]) ∧ Boxed w' T 9 (.string (textQ x.2))

set_option maxRecDepth 100000 in
set_option maxHeartbeats 2000000 in
theorem crdparam_any (T : Nat) (s : TextA) (w : World) (hT : Boxed w T 9 (.string (textQ s))) (hs : s.length ≤ 100000000) :
    Calls Tryz.prog 101 #[takeV T] w fun e w' => TookP (paramC s) T e w' ∧ TakeK T w.heap.size w w' := by
  have hTl := hT.lt
  obtain ⟨w0, hw0⟩ : ∃ w0, w.alloc (.cells #[.string ⟨#[]⟩, .string ⟨#[]⟩] 57) = w0 := ⟨_, rfl⟩
  have l0 : Below w.heap.size w w0 := by rw [← hw0]; exact (Below.refl _ _).alloc (Nat.le_refl _) _
  have z0 : w.heap.size < w0.heap.size := by rw [← hw0]; simp
  have p0 : ParAt w0 w.heap.size ⟨#[]⟩ ⟨#[]⟩ := by rw [← hw0]; exact par_new w _ _
  have h1 := crdname_any T s w0 (boxed_below hT l0) (by omega)
  have hdl := drop_len inNameC s
  obtain ⟨u, hu⟩ : ∃ u, s.dropWhile inNameC = u := ⟨_, rfl⟩
  unfold paramC
  rw [hu] at h1 hdl
  rw [hu]
  have h2 : Hid (∀ W, Boxed W T 9 (.string (textQ u)) → Calls Tryz.prog 100 #[takeV T, .int .u8 61] W fun e w' => e = .returned (.bool (cutA 61 u).isSome) ∧ Boxed w' T 9 (.string (textQ ((cutA 61 u).getD u))) ∧ TakeK T W.heap.size W w') := Lib.hid fun W hW => cone_any 61 T u W hW (by omega)
  obtain ⟨N, hN⟩ : ∃ N, textQ (wordC s) = N := ⟨_, rfl⟩
  rw [hN] at h1
  have L0 := Lib.hid l0
  have P0 := Lib.hid p0
  clear hT l0 p0 hu
  cases hq : cutA 61 u with
  | none =>
    rw [hq] at h2
    have h2 : Hid (∀ W, Boxed W T 9 (.string (textQ u)) → Calls Tryz.prog 100 #[takeV T, .int .u8 61] W fun e w' => e = .returned (.bool false) ∧ Boxed w' T 9 (.string (textQ u)) ∧ TakeK T W.heap.size W w') := h2
    show Calls _ _ _ _ fun e w' => TookP none T e w' ∧ _
    clear hq hN
    unfold takeV at h1 h2 ⊢
    go_enter Tryz.func101, Tryz.ntmps101
    go_wp2_with fail
    refine h1.mono ?_
    rintro e w1 ⟨rfl, q1, q2⟩
    have p1 : ParAt w1 w.heap.size ⟨#[]⟩ ⟨#[]⟩ := q2.heap P0.out z0 (by omega)
    obtain ⟨c0, c1, c2, c3⟩ := p1.cells
    obtain ⟨wa, hwa⟩ : ∃ wa, w1.setCell ⟨w.heap.size, 0, none⟩ (.string N) = wa := ⟨_, rfl⟩
    have h21 := h2.out wa (by rw [← hwa]; exact boxed_set q1 (by show w.heap.size ≠ T; omega) _)
    have pa : ParAt wa w.heap.size N ⟨#[]⟩ := by rw [← hwa]; exact p1.name N
    have ka : TakeK T w.heap.size w wa := by rw [← hwa]; exact ((TakeK.of L0.out).trans (q2.mono (by omega))).put (p := ⟨w.heap.size, 0, none⟩) (Nat.le_refl _) _
    have za : w.heap.size < wa.heap.size := by have := ka.size; rw [← hwa]; have := q2.size; simp [World.setCell]; omega
    have Pa := Lib.hid (And.intro pa ka)
    clear h1 h2 q1 q2 p1 pa ka L0 P0
    go_wp2_with fail
    refine h21.mono ?_
    rintro e w2 ⟨rfl, q1, q2⟩
    have p2 : ParAt w2 w.heap.size N ⟨#[]⟩ := q2.heap Pa.out.1 za (by omega)
    obtain ⟨c0, c1, c2, c3⟩ := p2.cells
    obtain ⟨k0, k1, _⟩ := (p2.put ⟨#[]⟩ ⟨#[]⟩).cells
    have Q := Lib.hid (show Boxed ((w2.setCell ⟨w.heap.size, 0, none⟩ (.string ⟨#[]⟩)).setCell ⟨w.heap.size, 1, none⟩ (.string ⟨#[]⟩)) T 9 (.string (textQ u)) ∧ TakeK T w.heap.size w ((w2.setCell ⟨w.heap.size, 0, none⟩ (.string ⟨#[]⟩)).setCell ⟨w.heap.size, 1, none⟩ (.string ⟨#[]⟩)) from
      ⟨boxed_set (boxed_set q1 (by show w.heap.size ≠ T; omega) _) (by show w.heap.size ≠ T; omega) _, ((Pa.out.2.trans (q2.mono (by omega))).put (p := ⟨w.heap.size, 0, none⟩) (Nat.le_refl _) _).put (p := ⟨w.heap.size, 1, none⟩) (Nat.le_refl _) _⟩)
    clear h21 q1 q2 p2 Pa
    go_wp2
    refine bodyPost_ret (v := .tuple #[.agg #[.string ⟨#[]⟩, .string ⟨#[]⟩], .bool false]) (by simp [results, Tryz.f101, go_sem, k0, k1]) rfl ⟨⟨_, _, _, rfl, Q.out.1⟩, Q.out.2⟩
  | some r =>
    rw [hq] at h2
    have h2 : Hid (∀ W, Boxed W T 9 (.string (textQ u)) → Calls Tryz.prog 100 #[takeV T, .int .u8 61] W fun e w' => e = .returned (.bool true) ∧ Boxed w' T 9 (.string (textQ r)) ∧ TakeK T W.heap.size W w') := h2
    have hrl : r.length ≤ s.length := by
      have := congrArg List.length (cut_lenA hq)
      rw [List.length_cons] at this
      omega
    have h3 : Hid (∀ W, Boxed W T 9 (.string (textQ r)) → Calls Tryz.prog 142 #[takeV T] W fun e w' => TookV (valueC r) T e w' ∧ TakeK T W.heap.size W w') := Lib.hid fun W hW => crdvalue_any T r W hW (by omega)
    show Calls _ _ _ _ fun e w' => TookP (match valueC r with | none => none | some (v, u) => some ((wordC s, v), u)) T e w' ∧ _
    obtain ⟨P, hP⟩ : ∃ P : Ending → World → Prop, TookP (match valueC r with | none => none | some (v, u) => some ((wordC s, v), u)) T = P := ⟨_, rfl⟩
    rw [hP]
    have h4 : Hid (∀ W, Boxed W T 9 (.string (textQ r)) → Calls Tryz.prog 142 #[takeV T] W fun e w' => (∃ X b R, e = .returned (.tuple #[.string X, .bool b]) ∧ Hid (Boxed w' T 9 (.string R) ∧ ∀ w'', Boxed w'' T 9 (.string R) → P (.returned (.tuple #[.agg #[.string N, .string X], .bool b])) w'')) ∧ TakeK T W.heap.size W w') := Lib.hid fun W hW => by
      refine (h3.out W hW).mono ?_
      rintro e w' ⟨hv, hk⟩
      refine ⟨?_, hk⟩
      cases hr : valueC r with
      | none =>
        rw [hr] at hv hP
        obtain ⟨X, R, rfl, hb⟩ := hv
        refine ⟨X, false, R, rfl, Lib.hid ⟨hb, fun w'' hw'' => ?_⟩⟩
        rw [← hP]
        exact ⟨N, X, R, rfl, hw''⟩
      | some x =>
        obtain ⟨v, u2⟩ := x
        rw [hr] at hv hP
        obtain ⟨rfl, hb⟩ := hv
        refine ⟨_, true, _, rfl, Lib.hid ⟨hb, fun w'' hw'' => ?_⟩⟩
        rw [← hP]
        exact ⟨by rw [← hN], hw''⟩
    clear hq hN h3 hP hrl
    unfold takeV at h1 h2 h4 ⊢
    go_enter Tryz.func101, Tryz.ntmps101
    go_wp2_with fail
    refine h1.mono ?_
    rintro e w1 ⟨rfl, q1, q2⟩
    have p1 : ParAt w1 w.heap.size ⟨#[]⟩ ⟨#[]⟩ := q2.heap P0.out z0 (by omega)
    obtain ⟨c0, c1, c2, c3⟩ := p1.cells
    obtain ⟨wa, hwa⟩ : ∃ wa, w1.setCell ⟨w.heap.size, 0, none⟩ (.string N) = wa := ⟨_, rfl⟩
    have h21 := h2.out wa (by rw [← hwa]; exact boxed_set q1 (by show w.heap.size ≠ T; omega) _)
    have pa : ParAt wa w.heap.size N ⟨#[]⟩ := by rw [← hwa]; exact p1.name N
    have ka : TakeK T w.heap.size w wa := by rw [← hwa]; exact ((TakeK.of L0.out).trans (q2.mono (by omega))).put (p := ⟨w.heap.size, 0, none⟩) (Nat.le_refl _) _
    have za : w.heap.size < wa.heap.size := by have := ka.size; rw [← hwa]; have := q2.size; simp [World.setCell]; omega
    have Pa := Lib.hid (And.intro pa ka)
    clear h1 h2 q1 q2 p1 pa ka L0 P0
    go_wp2_with fail
    refine h21.mono ?_
    rintro e w2 ⟨rfl, q1, q2⟩
    have p2 : ParAt w2 w.heap.size N ⟨#[]⟩ := q2.heap Pa.out.1 za (by omega)
    have h41 := h4.out w2 q1
    have z2 : w.heap.size < w2.heap.size := by have := q2.size; omega
    have P2 := Lib.hid (And.intro p2 (Pa.out.2.trans (q2.mono (by omega))))
    clear h21 q1 q2 p2 Pa h4
    go_wp2_with fail
    refine h41.mono ?_
    rintro e w3 ⟨⟨X, b, R, rfl, hb⟩, q2⟩
    have p3 : ParAt w3 w.heap.size N ⟨#[]⟩ := q2.heap P2.out.1 z2 (by omega)
    obtain ⟨c0, c1, c2, c3⟩ := p3.cells
    obtain ⟨wb, hwb⟩ : ∃ wb, w3.setCell ⟨w.heap.size, 1, none⟩ (.string X) = wb := ⟨_, rfl⟩
    have pb : ParAt wb w.heap.size N X := by rw [← hwb]; exact p3.value X
    have kb : TakeK T w.heap.size w wb := by rw [← hwb]; exact (P2.out.2.trans (q2.mono (by omega))).put (p := ⟨w.heap.size, 1, none⟩) (Nat.le_refl _) _
    have xb : Boxed wb T 9 (.string R) := by rw [← hwb]; exact boxed_set hb.out.1 (by show w.heap.size ≠ T; omega) _
    obtain ⟨d0, d1, d2, d3⟩ := pb.cells
    obtain ⟨k0, k1, _⟩ := (pb.put N X).cells
    have Q := Lib.hid (show P (.returned (.tuple #[.agg #[.string N, .string X], .bool b])) ((wb.setCell ⟨w.heap.size, 0, none⟩ (.string N)).setCell ⟨w.heap.size, 1, none⟩ (.string X)) ∧ TakeK T w.heap.size w ((wb.setCell ⟨w.heap.size, 0, none⟩ (.string N)).setCell ⟨w.heap.size, 1, none⟩ (.string X)) from
      ⟨hb.out.2 _ (boxed_set (boxed_set xb (by show w.heap.size ≠ T; omega) _) (by show w.heap.size ≠ T; omega) _), (kb.put (p := ⟨w.heap.size, 0, none⟩) (Nat.le_refl _) _).put (p := ⟨w.heap.size, 1, none⟩) (Nat.le_refl _) _⟩)
    clear h41 q2 p3 P2 pb kb xb hb
    go_wp2
    refine bodyPost_ret (v := .tuple #[.agg #[.string N, .string X], .bool b]) (by simp [results, Tryz.f101, go_sem, k0, k1]) rfl Q.out
end Go.Proofs.YtjikghndoklajaaGreatDoor
