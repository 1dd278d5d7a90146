/-
  QuotedSoft returns true, for any text: the walk.
-/
import Derived.Test.YtfbnifioifghlaaDoorAwake4
import Derived.Test.YtfbnifioifghlaaDoorQ4L
import Derived.Lib.Strings
namespace Go.Proofs.YtfbnifioifghlaaDoor
open Go.RowKit

/-- A text's lines, each the signs of its bytes. -/
def restQ (s : List UInt8) : List UInt8 := joinQ ((linesQ s).map signsQ)
/-- Does a line end here? -/
def endsQ (r : List UInt8) : Bool := decide (r = []) || decide (r.take 2 = [13, 10])
theorem rest_end (r : List UInt8) : restQ (13 :: 10 :: r) = 13 :: 10 :: restQ r := by
  unfold restQ
  rw [lines_end, List.map_cons, join_cons _ (by simpa using lines_ne r)]
  rfl
theorem first_empty (d : UInt8) : ∀ (r l : List UInt8) (ls : List (List UInt8)), linesQ (d :: r) = l :: ls → decide (l = []) = endsQ (d :: r)
  | [], l, ls, h => by
    cases h
    simp [endsQ]
  | x :: r, l, ls, h => by
    by_cases he : d = 13 ∧ x = 10
    · rw [he.1, he.2, lines_end] at h
      cases h
      simp [endsQ, he]
    · obtain ⟨l', ls', _, h2⟩ := lines_cons d x r he
      rw [h2] at h
      cases h
      simp [endsQ, he]
theorem rest_sign (c : UInt8) : ∀ (r : List UInt8), ¬ (c = 13 ∧ r.take 1 = [10]) → restQ (c :: r) = signB c (endsQ r) ++ restQ r
  | [], _ => by
    show signsQ [c] = signB c true ++ signsQ []
    rfl
  | d :: r, h => by
    have hn : ¬ (c = 13 ∧ d = 10) := fun e => h ⟨e.1, by rw [e.2]; rfl⟩
    obtain ⟨l, ls, h1, h2⟩ := lines_cons c d r hn
    have h3 := first_empty d r l ls h1
    unfold restQ
    rw [h2, h1, List.map_cons, List.map_cons, signsQ, h3]
    cases ls with
    | nil => rfl
    | cons m ls => rw [join_cons _ (by simp), join_cons _ (by simp), List.append_assoc]

/-- How far a text was told sign by sign. -/
def SignedTo (s W : ByteArray) (i : Nat) : Prop := W.size ≤ 3 * i ∧ restQ s.data.toList = W.data.toList ++ restQ (s.data.toList.drop i)
theorem data_append (a b : ByteArray) : (a ++ b).data.toList = a.data.toList ++ b.data.toList := by simp
theorem drop_byte {s : ByteArray} {i : Nat} (hi : i < s.size) : s.data.toList.drop i = s[i] :: s.data.toList.drop (i + 1) :=
  List.drop_eq_getElem_cons (show i < s.data.toList.length from hi)
theorem drop_none {s : ByteArray} {i : Nat} (hi : s.size ≤ i) : s.data.toList.drop i = [] := List.drop_eq_nil_of_le hi
theorem signed_end {s W : ByteArray} {i : Nat} (h : SignedTo s W i) (h2 : i + 1 < s.size) (e1 : s[i] = 13) (e2 : s[i + 1] = 10) : SignedTo s (W ++ ⟨#[13, 10]⟩) (i + 2) := by
  obtain ⟨g1, g2⟩ := h
  refine ⟨by rw [ByteArray.size_append]; show W.size + 2 ≤ _; omega, ?_⟩
  rw [g2, drop_byte (by omega : i < s.size), drop_byte h2, e1, e2, rest_end, data_append, List.append_assoc]
  rfl
theorem ends_at {s : ByteArray} {i : Nat} {last : Bool} (hl : last = true ↔ (i = s.size ∨ ∃ h : i + 1 < s.size, s[i] = 13 ∧ s[i + 1] = 10)) (hi : i ≤ s.size) : endsQ (s.data.toList.drop i) = last := by
  rw [Bool.eq_iff_iff, hl]
  by_cases h0 : i = s.size
  · rw [drop_none (by omega)]
    simp [endsQ, h0]
  · rw [drop_byte (by omega : i < s.size)]
    by_cases h1 : i + 1 < s.size
    · rw [drop_byte h1]
      simp [endsQ, h0, h1]
    · rw [drop_none (by omega : s.size ≤ i + 1)]
      simp [endsQ, h0, h1]
theorem signed_sign {s W X : ByteArray} {i : Nat} {last : Bool} (h : SignedTo s W i) (hi : i < s.size) (hn : ∀ h2 : i + 1 < s.size, ¬ (s[i] = 13 ∧ s[i + 1] = 10))
    (hl : last = true ↔ (i + 1 = s.size ∨ ∃ h : i + 2 < s.size, s[i + 1] = 13 ∧ s[i + 2] = 10)) (hX : (⟨(signB s[i] last).toArray⟩ : ByteArray) = X) : SignedTo s (W ++ X) (i + 1) := by
  obtain ⟨g1, g2⟩ := h
  have hXd : X.data.toList = signB s[i] last := by rw [← hX]
  have hXs : X.size = (signB s[i] last).length := by rw [← hX]; rfl
  have h3 := sign_len s[i] last
  have he := ends_at (s := s) (i := i + 1) (last := last) hl (by omega)
  refine ⟨by rw [ByteArray.size_append]; omega, ?_⟩
  rw [g2, drop_byte hi, rest_sign, he, data_append, hXd, List.append_assoc]
  rintro ⟨e1, e2⟩
  by_cases h2 : i + 1 < s.size
  · rw [drop_byte h2] at e2
    exact hn h2 ⟨e1, by simpa using e2⟩
  · rw [drop_none (by omega)] at e2
    exact absurd e2 (by simp)

/-- How far a told text was read without its soft ends. -/
def SoftTo (T G : ByteArray) (i : Nat) : Prop := G.size ≤ i ∧ softQ T.data.toList = G.data.toList ++ softQ (T.data.toList.drop i)
theorem soft_skip {T G : ByteArray} {i : Nat} (h : SoftTo T G i) (h2 : i + 2 < T.size) (e1 : T[i] = 61) (e2 : T[i + 1] = 13) (e3 : T[i + 2] = 10) : SoftTo T G (i + 3) := by
  obtain ⟨g1, g2⟩ := h
  refine ⟨by omega, ?_⟩
  rw [g2, drop_byte (by omega : i < T.size), drop_byte (by omega : i + 1 < T.size), drop_byte h2, e1, e2, e3, soft_end]
theorem soft_one {T G : ByteArray} {i : Nat} (h : SoftTo T G i) (hi : i < T.size) (hn : ∀ h2 : i + 2 < T.size, ¬ (T[i] = 61 ∧ T[i + 1] = 13 ∧ T[i + 2] = 10)) : SoftTo T (G ++ T.extract i (i + 1)) (i + 1) := by
  obtain ⟨g1, g2⟩ := h
  have hx : (T.extract i (i + 1)).data.toList = [T[i]] := by
    rw [Lib.extract_data, show i + 1 - i = 1 by omega, drop_byte hi]
    rfl
  have hxs : (T.extract i (i + 1)).size = 1 := by
    have := congrArg List.length hx
    exact this
  refine ⟨by rw [ByteArray.size_append]; omega, ?_⟩
  rw [g2, data_append, hx, drop_byte hi, soft_cons, List.append_assoc]
  · rfl
  intro r' e
  by_cases h2 : i + 2 < T.size
  · rw [drop_byte (by omega : i + 1 < T.size), drop_byte h2] at e
    simp only [List.cons.injEq] at e
    exact hn h2 ⟨e.1, e.2.1, e.2.2.1⟩
  · have := congrArg List.length e
    have hl : T.data.toList.length = T.size := rfl
    simp only [List.length_cons, List.length_drop] at this
    omega
theorem byte_eq {c : UInt8} (v : UInt8) (h : c.toNat = v.toNat) : c = v := UInt8.toNat_inj.mp h

set_option maxRecDepth 100000 in
set_option maxHeartbeats 4000000 in
theorem qsoft_walk (s : ByteArray) (m : Int) (w : World) (hm : w.cell? ⟨0, 0, none⟩ = some (.int .i64 m)) (hs : s.size ≤ maxLen) :
    Calls Tryd.prog 8 #[.string s] w fun e w' => e = .returned (.bool true) ∧ Below w.heap.size w w' := by
  have haw := awake4_any m w hm
  unfold maxLen at hs
  go_enter Tryd.func8, Tryd.ntmps8
  go_wp2_with fail
  refine haw.mono ?_
  rintro e w1 ⟨rfl, hw1⟩
  clear haw
  by_cases h1 : 2000 < s.size
  · go_wp2
    go_ret
    exact ⟨rfl, hw1⟩
  have hel := encQ_len s.data.toList
  rw [show s.data.toList.length = s.size from rfl] at hel
  obtain ⟨T, hT⟩ : ∃ T : ByteArray, (⟨(encQ s.data.toList).toArray⟩ : ByteArray) = T := ⟨_, rfl⟩
  have hTd : T.data.toList = encQ s.data.toList := by rw [← hT]
  have hTs : T.size ≤ 18000 := by
    have : T.size = (encQ s.data.toList).length := by rw [← hT]; rfl
    omega
  have C1 : Hid (∀ W, Below w.heap.size w W → Calls Tryd.prog 12 #[.string s] W fun e w' => e = .returned (.string T) ∧ Below W.heap.size W w') := Lib.hid fun W hW => by
    have := q4enc_any s m W (by omega) (bound_below hm hW)
    rw [hT] at this
    exact this
  have hsz : s.size ≤ 2000 := by omega
  have Same : Hid (∀ W G : ByteArray, SignedTo s W s.size → SoftTo T G T.size → G = W) := Lib.hid fun W G ⟨_, a⟩ ⟨_, b⟩ => by
    rw [drop_none (Nat.le_refl _)] at a b
    rw [hTd, soft_enc] at b
    have e1 : restQ [] = [] := rfl
    rw [e1, List.append_nil] at a
    rw [soft_nil, List.append_nil] at b
    exact ByteArray.ext (Array.ext' (by rw [← a, ← b]; rfl))
  have Start : Hid (SignedTo s ⟨#[]⟩ 0) := Lib.hid ⟨by decide, by rw [List.drop_zero]; rfl⟩
  have Start2 : Hid (SoftTo T ⟨#[]⟩ 0) := Lib.hid ⟨by decide, by rw [List.drop_zero]; rfl⟩
  clear hT hTd hel
  go_wp2_with fail
  go_loopw [3, 4, 5] (fun wv iv _ wr => ∃ (W : ByteArray) (i : Nat), i ≤ s.size ∧ iv = .int .i64 i ∧ wv = .string W ∧ Hid (SignedTo s W i) ∧ Below w.heap.size w wr) (fun _ iv _ _ => s.size - (intOf iv).toNat)
  case atStart => exact ⟨_, 0, by omega, rfl, rfl, Start, hw1⟩
  case round =>
    obtain ⟨W, i, hi, rfl, rfl, hC, hbr⟩ := hrel
    have hWs := hC.out.1
    clear Start
    by_cases hlt : i < s.size
    · have Nx : Hid (∀ (last : Bool) (X : ByteArray), (∀ h2 : i + 1 < s.size, ¬ (s[i] = 13 ∧ s[i + 1] = 10)) → (last = true ↔ (i + 1 = s.size ∨ ∃ h : i + 2 < s.size, s[i + 1] = 13 ∧ s[i + 2] = 10)) → (⟨(signB s[i] last).toArray⟩ : ByteArray) = X → X.size ≤ 3 ∧ SignedTo s (W ++ X) (i + 1)) := Lib.hid fun last X hn hl hX => ⟨by
        have h3 := sign_len s[i] last
        have : X.size = (signB s[i] last).length := by rw [← hX]; rfl
        omega, signed_sign hC.out hlt hn hl hX⟩
      by_cases c13 : s[i].toNat = 13
      · have k13_0 : (((s[i]).toNat : Int) == 13) = true := by rw [c13]; rfl
        by_cases hj : i + 1 < s.size
        rotate_left
        · have kl : ((i : Int) + 1 == (s.size : Int)) = true := by rw [beq_iff_eq]; omega
          obtain ⟨X, hX⟩ : ∃ X : ByteArray, (⟨(signB s[i] true).toArray⟩ : ByteArray) = X := ⟨_, rfl⟩
          obtain ⟨hXs, hN⟩ := Nx.out true X (fun h2 => absurd h2 hj) (⟨fun _ => .inl (by omega), fun _ => rfl⟩) hX
          have N := Lib.hid hN
          have C : Hid (∀ W, Calls Tryd.prog 14 #[.int .u8 (s[i].toNat : Int), .bool true] W fun e w' => e = .returned (.string X) ∧ Below W.heap.size W w') := Lib.hid fun W => by
            have := q4sign_any s[i] true W
            rw [hX] at this
            exact this
          clear hN hX Nx hC c13
          go_wp2_with fail
          refine (C.out _).mono ?_
          rintro e w3 ⟨rfl, hb⟩
          have b3 := hbr.trans (hb.mono hbr.size)
          clear hb C hbr
          go_wp2
          exact ⟨⟨W ++ X, i + 1, by omega, by go_num, rfl, N, b3⟩, by simp [intOf]; omega⟩
        by_cases c10 : s[i + 1].toNat = 10
        · have k10_1 : (((s[i + 1]).toNat : Int) == 10) = true := by rw [c10]; rfl
          have N := Lib.hid (signed_end hC.out hj (byte_eq 13 c13) (byte_eq 10 c10))
          clear Nx hC c13 c10
          go_wp2
          exact ⟨⟨_, i + 2, by omega, by go_num, rfl, N, hbr⟩, by simp [intOf]; omega⟩
        have k10_1 : (((s[i + 1]).toNat : Int) == 10) = false := by rw [beq_eq_false_iff_ne]; omega
        have kl : ((i : Int) + 1 == (s.size : Int)) = false := by rw [beq_eq_false_iff_ne]; omega
        by_cases hj2 : i + 2 < s.size
        rotate_left
        · skip
          obtain ⟨X, hX⟩ : ∃ X : ByteArray, (⟨(signB s[i] false).toArray⟩ : ByteArray) = X := ⟨_, rfl⟩
          obtain ⟨hXs, hN⟩ := Nx.out false X (fun _ h => c10 (by rw [h.2]; rfl)) (⟨fun h => absurd h (by simp), fun h => by rcases h with h | ⟨h, _⟩ <;> omega⟩) hX
          have N := Lib.hid hN
          have C : Hid (∀ W, Calls Tryd.prog 14 #[.int .u8 (s[i].toNat : Int), .bool false] W fun e w' => e = .returned (.string X) ∧ Below W.heap.size W w') := Lib.hid fun W => by
            have := q4sign_any s[i] false W
            rw [hX] at this
            exact this
          clear hN hX Nx hC c13
          go_wp2_with fail
          refine (C.out _).mono ?_
          rintro e w3 ⟨rfl, hb⟩
          have b3 := hbr.trans (hb.mono hbr.size)
          clear hb C hbr
          go_wp2
          exact ⟨⟨W ++ X, i + 1, by omega, by go_num, rfl, N, b3⟩, by simp [intOf]; omega⟩
        by_cases d13 : s[i + 1].toNat = 13
        rotate_left
        · have k13_1 : (((s[i + 1]).toNat : Int) == 13) = false := by rw [beq_eq_false_iff_ne]; omega
          obtain ⟨X, hX⟩ : ∃ X : ByteArray, (⟨(signB s[i] false).toArray⟩ : ByteArray) = X := ⟨_, rfl⟩
          obtain ⟨hXs, hN⟩ := Nx.out false X (fun _ h => c10 (by rw [h.2]; rfl)) (⟨fun h => absurd h (by simp), fun h => by rcases h with h | ⟨_, h, _⟩; (exact absurd h (by omega)); exact absurd (by rw [h]; rfl) d13⟩) hX
          have N := Lib.hid hN
          have C : Hid (∀ W, Calls Tryd.prog 14 #[.int .u8 (s[i].toNat : Int), .bool false] W fun e w' => e = .returned (.string X) ∧ Below W.heap.size W w') := Lib.hid fun W => by
            have := q4sign_any s[i] false W
            rw [hX] at this
            exact this
          clear hN hX Nx hC c13
          go_wp2_with fail
          refine (C.out _).mono ?_
          rintro e w3 ⟨rfl, hb⟩
          have b3 := hbr.trans (hb.mono hbr.size)
          clear hb C hbr
          go_wp2
          exact ⟨⟨W ++ X, i + 1, by omega, by go_num, rfl, N, b3⟩, by simp [intOf]; omega⟩
        have k13_1 : (((s[i + 1]).toNat : Int) == 13) = true := by rw [d13]; rfl
        by_cases d10 : s[i + 2].toNat = 10
        · have k10_2 : (((s[i + 2]).toNat : Int) == 10) = true := by rw [d10]; rfl
          obtain ⟨X, hX⟩ : ∃ X : ByteArray, (⟨(signB s[i] true).toArray⟩ : ByteArray) = X := ⟨_, rfl⟩
          obtain ⟨hXs, hN⟩ := Nx.out true X (fun _ h => c10 (by rw [h.2]; rfl)) (⟨fun _ => .inr ⟨hj2, byte_eq 13 d13, byte_eq 10 d10⟩, fun _ => rfl⟩) hX
          have N := Lib.hid hN
          have C : Hid (∀ W, Calls Tryd.prog 14 #[.int .u8 (s[i].toNat : Int), .bool true] W fun e w' => e = .returned (.string X) ∧ Below W.heap.size W w') := Lib.hid fun W => by
            have := q4sign_any s[i] true W
            rw [hX] at this
            exact this
          clear hN hX Nx hC c13 d13 d10
          go_wp2_with fail
          refine (C.out _).mono ?_
          rintro e w3 ⟨rfl, hb⟩
          have b3 := hbr.trans (hb.mono hbr.size)
          clear hb C hbr
          go_wp2
          exact ⟨⟨W ++ X, i + 1, by omega, by go_num, rfl, N, b3⟩, by simp [intOf]; omega⟩
        · have k10_2 : (((s[i + 2]).toNat : Int) == 10) = false := by rw [beq_eq_false_iff_ne]; omega
          obtain ⟨X, hX⟩ : ∃ X : ByteArray, (⟨(signB s[i] false).toArray⟩ : ByteArray) = X := ⟨_, rfl⟩
          obtain ⟨hXs, hN⟩ := Nx.out false X (fun _ h => c10 (by rw [h.2]; rfl)) (⟨fun h => absurd h (by simp), fun h => by rcases h with h | ⟨_, _, h⟩; (exact absurd h (by omega)); exact absurd (by rw [h]; rfl) d10⟩) hX
          have N := Lib.hid hN
          have C : Hid (∀ W, Calls Tryd.prog 14 #[.int .u8 (s[i].toNat : Int), .bool false] W fun e w' => e = .returned (.string X) ∧ Below W.heap.size W w') := Lib.hid fun W => by
            have := q4sign_any s[i] false W
            rw [hX] at this
            exact this
          clear hN hX Nx hC c13 d13
          go_wp2_with fail
          refine (C.out _).mono ?_
          rintro e w3 ⟨rfl, hb⟩
          have b3 := hbr.trans (hb.mono hbr.size)
          clear hb C hbr
          go_wp2
          exact ⟨⟨W ++ X, i + 1, by omega, by go_num, rfl, N, b3⟩, by simp [intOf]; omega⟩
      · have k13_0 : (((s[i]).toNat : Int) == 13) = false := by rw [beq_eq_false_iff_ne]; omega
        by_cases hj : i + 1 < s.size
        rotate_left
        · have kl : ((i : Int) + 1 == (s.size : Int)) = true := by rw [beq_iff_eq]; omega
          obtain ⟨X, hX⟩ : ∃ X : ByteArray, (⟨(signB s[i] true).toArray⟩ : ByteArray) = X := ⟨_, rfl⟩
          obtain ⟨hXs, hN⟩ := Nx.out true X (fun h2 => absurd h2 hj) (⟨fun _ => .inl (by omega), fun _ => rfl⟩) hX
          have N := Lib.hid hN
          have C : Hid (∀ W, Calls Tryd.prog 14 #[.int .u8 (s[i].toNat : Int), .bool true] W fun e w' => e = .returned (.string X) ∧ Below W.heap.size W w') := Lib.hid fun W => by
            have := q4sign_any s[i] true W
            rw [hX] at this
            exact this
          clear hN hX Nx hC
          go_wp2_with fail
          refine (C.out _).mono ?_
          rintro e w3 ⟨rfl, hb⟩
          have b3 := hbr.trans (hb.mono hbr.size)
          clear hb C hbr
          go_wp2
          exact ⟨⟨W ++ X, i + 1, by omega, by go_num, rfl, N, b3⟩, by simp [intOf]; omega⟩
        have kl : ((i : Int) + 1 == (s.size : Int)) = false := by rw [beq_eq_false_iff_ne]; omega
        by_cases hj2 : i + 2 < s.size
        rotate_left
        · skip
          obtain ⟨X, hX⟩ : ∃ X : ByteArray, (⟨(signB s[i] false).toArray⟩ : ByteArray) = X := ⟨_, rfl⟩
          obtain ⟨hXs, hN⟩ := Nx.out false X (fun _ h => c13 (by rw [h.1]; rfl)) (⟨fun h => absurd h (by simp), fun h => by rcases h with h | ⟨h, _⟩ <;> omega⟩) hX
          have N := Lib.hid hN
          have C : Hid (∀ W, Calls Tryd.prog 14 #[.int .u8 (s[i].toNat : Int), .bool false] W fun e w' => e = .returned (.string X) ∧ Below W.heap.size W w') := Lib.hid fun W => by
            have := q4sign_any s[i] false W
            rw [hX] at this
            exact this
          clear hN hX Nx hC
          go_wp2_with fail
          refine (C.out _).mono ?_
          rintro e w3 ⟨rfl, hb⟩
          have b3 := hbr.trans (hb.mono hbr.size)
          clear hb C hbr
          go_wp2
          exact ⟨⟨W ++ X, i + 1, by omega, by go_num, rfl, N, b3⟩, by simp [intOf]; omega⟩
        by_cases d13 : s[i + 1].toNat = 13
        rotate_left
        · have k13_1 : (((s[i + 1]).toNat : Int) == 13) = false := by rw [beq_eq_false_iff_ne]; omega
          obtain ⟨X, hX⟩ : ∃ X : ByteArray, (⟨(signB s[i] false).toArray⟩ : ByteArray) = X := ⟨_, rfl⟩
          obtain ⟨hXs, hN⟩ := Nx.out false X (fun _ h => c13 (by rw [h.1]; rfl)) (⟨fun h => absurd h (by simp), fun h => by rcases h with h | ⟨_, h, _⟩; (exact absurd h (by omega)); exact absurd (by rw [h]; rfl) d13⟩) hX
          have N := Lib.hid hN
          have C : Hid (∀ W, Calls Tryd.prog 14 #[.int .u8 (s[i].toNat : Int), .bool false] W fun e w' => e = .returned (.string X) ∧ Below W.heap.size W w') := Lib.hid fun W => by
            have := q4sign_any s[i] false W
            rw [hX] at this
            exact this
          clear hN hX Nx hC
          go_wp2_with fail
          refine (C.out _).mono ?_
          rintro e w3 ⟨rfl, hb⟩
          have b3 := hbr.trans (hb.mono hbr.size)
          clear hb C hbr
          go_wp2
          exact ⟨⟨W ++ X, i + 1, by omega, by go_num, rfl, N, b3⟩, by simp [intOf]; omega⟩
        have k13_1 : (((s[i + 1]).toNat : Int) == 13) = true := by rw [d13]; rfl
        by_cases d10 : s[i + 2].toNat = 10
        · have k10_2 : (((s[i + 2]).toNat : Int) == 10) = true := by rw [d10]; rfl
          obtain ⟨X, hX⟩ : ∃ X : ByteArray, (⟨(signB s[i] true).toArray⟩ : ByteArray) = X := ⟨_, rfl⟩
          obtain ⟨hXs, hN⟩ := Nx.out true X (fun _ h => c13 (by rw [h.1]; rfl)) (⟨fun _ => .inr ⟨hj2, byte_eq 13 d13, byte_eq 10 d10⟩, fun _ => rfl⟩) hX
          have N := Lib.hid hN
          have C : Hid (∀ W, Calls Tryd.prog 14 #[.int .u8 (s[i].toNat : Int), .bool true] W fun e w' => e = .returned (.string X) ∧ Below W.heap.size W w') := Lib.hid fun W => by
            have := q4sign_any s[i] true W
            rw [hX] at this
            exact this
          clear hN hX Nx hC d13 d10
          go_wp2_with fail
          refine (C.out _).mono ?_
          rintro e w3 ⟨rfl, hb⟩
          have b3 := hbr.trans (hb.mono hbr.size)
          clear hb C hbr
          go_wp2
          exact ⟨⟨W ++ X, i + 1, by omega, by go_num, rfl, N, b3⟩, by simp [intOf]; omega⟩
        · have k10_2 : (((s[i + 2]).toNat : Int) == 10) = false := by rw [beq_eq_false_iff_ne]; omega
          obtain ⟨X, hX⟩ : ∃ X : ByteArray, (⟨(signB s[i] false).toArray⟩ : ByteArray) = X := ⟨_, rfl⟩
          obtain ⟨hXs, hN⟩ := Nx.out false X (fun _ h => c13 (by rw [h.1]; rfl)) (⟨fun h => absurd h (by simp), fun h => by rcases h with h | ⟨_, _, h⟩; (exact absurd h (by omega)); exact absurd (by rw [h]; rfl) d10⟩) hX
          have N := Lib.hid hN
          have C : Hid (∀ W, Calls Tryd.prog 14 #[.int .u8 (s[i].toNat : Int), .bool false] W fun e w' => e = .returned (.string X) ∧ Below W.heap.size W w') := Lib.hid fun W => by
            have := q4sign_any s[i] false W
            rw [hX] at this
            exact this
          clear hN hX Nx hC d13
          go_wp2_with fail
          refine (C.out _).mono ?_
          rintro e w3 ⟨rfl, hb⟩
          have b3 := hbr.trans (hb.mono hbr.size)
          clear hb C hbr
          go_wp2
          exact ⟨⟨W ++ X, i + 1, by omega, by go_num, rfl, N, b3⟩, by simp [intOf]; omega⟩
    · have hii : i = s.size := by omega
      clear hlt
      subst hii
      go_wp2_with fail
      refine (C1.out _ hbr).mono ?_
      rintro e w2 ⟨rfl, hb⟩
      have b2 := hbr.trans (hb.mono hbr.size)
      clear hb C1 hbr
      go_wp2
      go_loop [7, 8] (fun gv iv => ∃ (G : ByteArray) (i : Nat), i ≤ T.size ∧ iv = .int .i64 i ∧ gv = .string G ∧ Hid (SoftTo T G i)) (fun _ iv => T.size - (intOf iv).toNat)
      case atStart => exact ⟨_, 0, by omega, rfl, rfl, Start2⟩
      case round =>
        obtain ⟨G, i, hi, rfl, rfl, hG⟩ := hrel
        have hGs := hG.out.1
        clear Start2
        by_cases hlt : i < T.size
        · by_cases c61 : T[i].toNat = 61
          rotate_left
          · have k61_0 : (((T[i]).toNat : Int) == 61) = false := by rw [beq_eq_false_iff_ne]; omega
            have N := Lib.hid (soft_one hG.out hlt (fun _ h => c61 (by rw [h.1]; rfl)))
            clear hG Same
            go_wp2
            exact ⟨⟨_, i + 1, by omega, by go_num, rfl, N⟩, by simp [intOf]; omega⟩
          have k61_0 : (((T[i]).toNat : Int) == 61) = true := by rw [c61]; rfl
          by_cases hj2 : i + 2 < T.size
          rotate_left
          · skip
            have N := Lib.hid (soft_one hG.out hlt (fun h _ => hj2 h))
            clear hG Same
            go_wp2
            exact ⟨⟨_, i + 1, by omega, by go_num, rfl, N⟩, by simp [intOf]; omega⟩
          by_cases d13 : T[i + 1].toNat = 13
          rotate_left
          · have k13_1 : (((T[i + 1]).toNat : Int) == 13) = false := by rw [beq_eq_false_iff_ne]; omega
            have N := Lib.hid (soft_one hG.out hlt (fun _ h => d13 (by rw [h.2.1]; rfl)))
            clear hG Same
            go_wp2
            exact ⟨⟨_, i + 1, by omega, by go_num, rfl, N⟩, by simp [intOf]; omega⟩
          have k13_1 : (((T[i + 1]).toNat : Int) == 13) = true := by rw [d13]; rfl
          by_cases d10 : T[i + 2].toNat = 10
          rotate_left
          · have k10_2 : (((T[i + 2]).toNat : Int) == 10) = false := by rw [beq_eq_false_iff_ne]; omega
            have N := Lib.hid (soft_one hG.out hlt (fun _ h => d10 (by rw [h.2.2]; rfl)))
            clear hG Same
            go_wp2
            exact ⟨⟨_, i + 1, by omega, by go_num, rfl, N⟩, by simp [intOf]; omega⟩
          have k10_2 : (((T[i + 2]).toNat : Int) == 10) = true := by rw [d10]; rfl
          have N := Lib.hid (soft_skip hG.out hj2 (byte_eq 61 c61) (byte_eq 13 d13) (byte_eq 10 d10))
          clear hG Same
          go_wp2
          exact ⟨⟨_, i + 3, by omega, by go_num, rfl, N⟩, by simp [intOf]; omega⟩
        · have hii : i = T.size := by omega
          clear hlt
          subst hii
          have hGW := Same.out W G hC.out hG.out
          clear Same hC hG
          subst hGW
          go_wp2
          go_ret
          exact ⟨rfl, b2⟩
end Go.Proofs.YtfbnifioifghlaaDoor
