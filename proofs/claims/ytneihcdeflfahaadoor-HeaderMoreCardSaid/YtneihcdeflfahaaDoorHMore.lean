/-
  HeaderMore: the walk.
-/
import Derived.Test.YtneihcdeflfahaaDoorH10D
import Derived.Test.YtneihcdeflfahaaDoorAwake10
import Derived.Test.YtneihcdeflfahaaDoorHAppF
namespace Go.Proofs.YtneihcdeflfahaaDoor
open Go.RowKit

theorem print_zero {l : List FieldH} (h : ∀ f ∈ l, RightH f) (h64 : l.length ≤ 64) (hl : longH (l.flatMap linesH) = false) : (printH l).2 = 0 := by
  have := printV_good (fun f hf => (right_iff f).2 (h f hf)) h64 hl
  unfold printV10 at this
  have h2 := (Value.tuple.inj this)
  have h3 := congrArg (fun a : Array Value => a[1]?) h2
  simp at h3
  exact h3
theorem print_parts {a b : List FieldH} (h : (printH (a ++ b)).2 = 0) : (printH a).2 = 0 ∧ (printH b).2 = 0 := by
  obtain ⟨hr, h64, hl, _⟩ := print_ok h
  rw [List.flatMap_append, long_append, Bool.or_eq_false_iff] at hl
  rw [List.length_append] at h64
  exact ⟨print_zero (fun f hf => hr f (List.mem_append_left _ hf)) (by omega) hl.1, print_zero (fun f hf => hr f (List.mem_append_right _ hf)) (by omega) hl.2⟩
theorem print_join {a b : List FieldH} (ha : (printH a).2 = 0) (hb : (printH b).2 = 0) (h64 : a.length + b.length ≤ 64) : (printH (a ++ b)).2 = 0 ∧ (printH (a ++ b)).1 = (printH a).1.take ((printH a).1.length - 2) ++ (printH b).1 ∧ 2 ≤ (printH a).1.length := by
  obtain ⟨r1, _, l1, p1⟩ := print_ok ha
  obtain ⟨r2, _, l2, p2⟩ := print_ok hb
  have h0 : (printH (a ++ b)).2 = 0 := print_zero (fun f hf => by
    rcases List.mem_append.1 hf with h | h
    · exact r1 f h
    · exact r2 f h) (by rw [List.length_append]; exact h64) (by rw [List.flatMap_append, long_append, l1, l2]; rfl)
  refine ⟨h0, ?_, ?_⟩
  · rw [(print_ok h0).2.2.2, p1, p2, header_more]
  · rw [p1]
    unfold headerH
    simp

set_option maxRecDepth 100000 in
set_option maxHeartbeats 8000000 in
theorem hmore_walk (v u : Value) (a b : List FieldH) (m : Int) (w : World) (hat : FieldsAt w w.heap.size v a) (hat2 : FieldsAt w w.heap.size u b) (hsm : SmallF maxLen a) (hsm2 : SmallF maxLen b) (hn : NilF v) (hn2 : NilF u) (hm : w.cell? ⟨0, 0, none⟩ = some (.int .i64 m)) :
    Calls Tryd.prog 7 #[v, u] w fun e w' => e = .returned (.bool true) ∧ Below w.heap.size w w' := by
  have haw := awake10_any m w hm
  have hfew : Hid (∀ W, Below w.heap.size w W → Calls Tryd.prog 10 #[v] W (FewPost a W)) := Lib.hid fun W hW => few10_any w.heap.size v a W (hat.below hW (Nat.le_refl _)) hW.size hsm
  have hfew2 : Hid (∀ W, Below w.heap.size w W → Calls Tryd.prog 10 #[u] W (FewPost b W)) := Lib.hid fun W hW => few10_any w.heap.size u b W (hat2.below hW (Nat.le_refl _)) hW.size hsm2
  have hpr : Hid (∀ W v' (l : List FieldH), Below w.heap.size w W → FieldsAt W W.heap.size v' l → SmallF 8000 l → Calls Tryd.prog 11 #[v'] W fun e w' => e = .returned (.tuple #[.string (textQ (printH l).1), .int .i64 (printH l).2]) ∧ Below w.heap.size w w') := Lib.hid fun W v' l hW hv hs => by
    refine (hprint_any W.heap.size v' l W hv (Nat.le_refl _) (fun f hf => by have := hs f hf; omega)).mono ?_
    rintro e w' ⟨rfl, hb⟩
    exact ⟨rfl, hW.trans (hb.mono hW.size)⟩
  have Hat : Hid (∀ W, Below w.heap.size w W → FieldsAt W W.heap.size v a) := Lib.hid fun W hW => (hat.below hW (Nat.le_refl _)).up hW.size
  have Hat2 : Hid (∀ W, Below w.heap.size w W → FieldsAt W W.heap.size u b) := Lib.hid fun W hW => (hat2.below hW (Nat.le_refl _)).up hW.size
  have Hn1 := Lib.hid hn
  have Hn2 := Lib.hid hn2
  obtain ⟨ao, cp, rfl, q1, q2, _⟩ := hat
  obtain ⟨bo, cp2, rfl, q3, q4, _⟩ := hat2
  unfold maxLen at q2 q4
  clear hsm hsm2 hn hn2 hm
  go_enter Tryd.func7, Tryd.ntmps7
  go_wp2_with fail
  refine haw.mono ?_
  rintro e w1 ⟨rfl, hb1⟩
  clear haw
  go_wp2_with fail
  refine (hfew.out _ hb1).mono ?_
  rintro e w2 ⟨x, rfl, hfb, hw2⟩
  have hb2 := hb1.trans (hw2.mono hb1.size)
  clear hfew hw2 hb1
  cases x with
  | false =>
    go_wp2
    go_ret
    exact ⟨rfl, hb2⟩
  | true =>
    have HF1 := Lib.hid (hfb rfl)
    clear hfb
    go_wp2_with fail
    refine (hfew2.out _ hb2).mono ?_
    rintro e w3 ⟨x, rfl, hfb, hw3⟩
    have hb3 := hb2.trans (hw3.mono hb2.size)
    clear hfew2 hw3 hb2
    cases x with
    | false =>
      go_wp2
      go_ret
      exact ⟨rfl, hb3⟩
    | true =>
      have HF2 := Lib.hid (hfb rfl)
      clear hfb
      have hw64 : IntKind.i64.wrap ((a.length : Int) + (b.length : Int)) = (a.length : Int) + (b.length : Int) := by
        have h1 := HF1.out.1
        have h2 := HF2.out.1
        rw [IntWalk.i64_in _ (by omega)]
      by_cases h64 : 64 < a.length + b.length
      · have hq : (64 : Int) < (a.length : Int) + (b.length : Int) := by omega
        go_wp2
        go_ret
        exact ⟨rfl, hb3⟩
      · have hq : ¬ (64 : Int) < (a.length : Int) + (b.length : Int) := by omega
        have p1 := hpr.out w3 _ a hb3 (Hat.out w3 hb3) HF1.out.small
        have p2 : Hid (∀ W, Below w.heap.size w W → Calls Tryd.prog 11 #[.slice bo b.length cp2] W fun e w' => e = .returned (.tuple #[.string (textQ (printH b).1), .int .i64 (printH b).2]) ∧ Below w.heap.size w w') := Lib.hid fun W hW => hpr.out W _ b hW (Hat2.out W hW) HF2.out.small
        have hsm3 : SmallF 8000 (a ++ b) := fun f hf => by
          rcases List.mem_append.1 hf with h | h
          · exact HF1.out.small f h
          · exact HF2.out.small f h
        have p3 : Hid (∀ W v', Below w.heap.size w W → FieldsAt W W.heap.size v' (a ++ b) → Calls Tryd.prog 11 #[v'] W fun e w' => e = .returned (.tuple #[.string (textQ (printH (a ++ b)).1), .int .i64 (printH (a ++ b)).2]) ∧ Below w.heap.size w w') := Lib.hid fun W v' hW hv => hpr.out W v' _ hW hv hsm3
        have hbad : Hid (((printH a).2 ≠ 0 ∨ (printH b).2 ≠ 0) → (printH (a ++ b)).2 ≠ 0) := Lib.hid fun h e => by
          obtain ⟨e1, e2⟩ := print_parts e
          rcases h with h | h
          · exact h e1
          · exact h e2
        have hgood : Hid ((printH a).2 = 0 → (printH b).2 = 0 → (printH (a ++ b)).2 = 0 ∧ (printH (a ++ b)).1 = (printH a).1.take ((printH a).1.length - 2) ++ (printH b).1 ∧ 2 ≤ (printH a).1.length) := Lib.hid fun h1 h2 => print_join h1 h2 (by omega)
        obtain ⟨E1, hE1⟩ : ∃ E, (printH a).2 = E := ⟨_, rfl⟩
        obtain ⟨E2, hE2⟩ : ∃ E, (printH b).2 = E := ⟨_, rfl⟩
        obtain ⟨E3, hE3⟩ : ∃ E, (printH (a ++ b)).2 = E := ⟨_, rfl⟩
        obtain ⟨T1, hT1⟩ : ∃ T, textQ (printH a).1 = T := ⟨_, rfl⟩
        obtain ⟨T2, hT2⟩ : ∃ T, textQ (printH b).1 = T := ⟨_, rfl⟩
        obtain ⟨T3, hT3⟩ : ∃ T, textQ (printH (a ++ b)).1 = T := ⟨_, rfl⟩
        have hs1 : T1.size ≤ 48002 := by
          rw [← hT1]
          have := print_size (l := a)
          have := HF1.out.size
          show (printH a).1.length ≤ _
          omega
        have hs2 : T2.size ≤ 48002 := by
          rw [← hT2]
          have := print_size (l := b)
          have := HF2.out.size
          show (printH b).1.length ≤ _
          omega
        simp only [hE1, hT1, hE2, hT2, hE3, hT3] at p1 p2 p3 hbad
        have hgood2 : Hid (E1 = 0 → E2 = 0 → E3 = 0 ∧ T3 = T1.extract 0 (T1.size - 2) ++ T2 ∧ 2 ≤ T1.size) := Lib.hid fun h1 h2 => by
          obtain ⟨g1, g2, g3⟩ := hgood.out (by rw [hE1]; exact h1) (by rw [hE2]; exact h2)
          refine ⟨by rw [← hE3]; exact g1, ?_, by rw [← hT1]; exact g3⟩
          have e1 : T1.size = (printH a).1.length := by rw [← hT1]; rfl
          have e4 : T1.data.toList = (printH a).1 := by rw [← hT1]; rfl
          rw [← hT3, g2, cut_text, e1, e4, List.drop_zero, Nat.sub_zero, ← hT2]
          refine ByteArray.ext ?_
          rw [ByteArray.data_append]
          exact Array.toList_inj.1 (by rw [Array.toList_append]; rfl)
        clear hE1 hE2 hE3 hT1 hT2 hT3 hgood hsm3
        go_wp2_with fail
        refine p1.mono ?_
        rintro e w4 ⟨rfl, hb4⟩
        clear p1 hb3
        go_wp2_with fail
        refine (p2.out _ hb4).mono ?_
        rintro e w5 ⟨rfl, hb5⟩
        clear p2 hb4
        have hown := own_empty w5
        have h5z := World.size_alloc w5 (.cells #[] 38)
        have hA5 := (Hat.out w5 hb5).below ((Below.refl w5.heap.size w5).alloc (Nat.le_refl _) (.cells #[] 38)) (Nat.le_refl _)
        have hl64 : a.length + b.length ≤ 64 := by omega
        go_wp2_with (first | (at_builtin; refine wpList_append_fields rfl _ _ rfl w5.heap.size _ [] rfl hown (by omega) _ a w5.heap.size rfl hA5 Hn1.out (by simp; omega) ?_) | fail)
        intro v6 w6 hown6 hgrow6
        have hown6 : FieldsOwn w6 w5.heap.size v6 a := hown6
        have hq6 : Below w5.heap.size w5 w6 := ((Below.refl w5.heap.size w5).alloc (Nat.le_refl _) (.cells #[] 38)).grown hgrow6 (by omega) fun q hk => (row_block hown hk).1
        have hA6 := (Hat2.out w5 hb5).below hq6 (Nat.le_refl _)
        have h6z := hq6.size
        clear hown hgrow6 hA5 Hat Hat2 Hn1 hpr
        go_wp2_with (first | (at_builtin; refine wpList_append_fields rfl _ _ rfl w5.heap.size _ a rfl hown6 h6z _ b w5.heap.size rfl hA6 Hn2.out (by omega) ?_) | fail)
        intro v7 w7 hown7 hgrow7
        have hb7 : Below w.heap.size w w7 := (hb5.trans (hq6.mono hb5.size)).grown hgrow7 (by have := hb5.size; omega) fun q hk => by have := (row_block hown6 hk).1; have := hb5.size; omega
        have hpr7 := p3.out w7 v7 hb7 hown7.at
        clear hown6 hgrow7 hA6 Hn2 p3 hb5 hq6 h6z h5z hb7 hown7
        go_wp2_with fail
        refine hpr7.mono ?_
        rintro e w8 ⟨rfl, hb8⟩
        clear hpr7
        by_cases h1 : E1 = 0
        · by_cases h2 : E2 = 0
          · obtain ⟨h3, hT3, hT2⟩ := hgood2.out h1 h2
            subst h1 h2 h3 hT3
            clear hbad hgood2
            have hsub : IntKind.i64.wrap ((T1.size : Int) - 2) = ((T1.size - 2 : Nat) : Int) := by rw [IntWalk.i64_in _ (by omega)]; omega
            have hc1 : (0 : Int) ≤ ((T1.size - 2 : Nat) : Int) := by omega
            have hc2 : ((T1.size - 2 : Nat) : Int) ≤ (T1.size : Int) := by omega
            have hex : (T1.extract 0 (T1.size - 2)).size = T1.size - 2 := by rw [ByteArray.size_extract]; omega
            go_wp2
            go_ret
            exact ⟨rfl, hb8⟩
          · have q2 : (E2 != 0) = true := bne_iff_ne.2 h2
            have q3 : (E3 != 0) = true := bne_iff_ne.2 (hbad.out (.inr h2))
            subst h1
            go_wp2
            go_ret
            exact ⟨rfl, hb8⟩
        · have q1 : (E1 != 0) = true := bne_iff_ne.2 h1
          have q3 : (E3 != 0) = true := bne_iff_ne.2 (hbad.out (.inl h1))
          go_wp2
          go_ret
          exact ⟨rfl, hb8⟩
end Go.Proofs.YtneihcdeflfahaaDoor
