/-
  The document's answer of layer 12: Same and Param.
-/
import Derived.Test.YtafpifpgfpkckaaDoorR12B
import Derived.Laws.StructEq
namespace Go.Proofs.YtafpifpgfpkckaaDoor
open Go.RowKit

set_option maxRecDepth 100000 in
set_option maxHeartbeats 4000000 in
theorem r12same_any (B : Nat) (v u : Value) (s t : TypeC) (w : World) (h : ParsAt w B v s.2.2) (h2 : ParsAt w B u t.2.2) (hB : B ≤ w.heap.size) :
    Calls Tryd.prog 16 #[typeV s v, typeV t u] w fun e w' => e = .returned (.bool (decide (s = t))) ∧ Below w.heap.size w w' := by
  obtain ⟨ao, cap, rfl, hc1, hc2⟩ := h.slice
  obtain ⟨bo, cap2, rfl, hd1, hd2⟩ := h2.slice
  have Hat : Hid (∀ W, Below w.heap.size w W → ∀ i (hi : i < s.2.2.length), ∃ g off, ao = some ⟨g, off, none⟩ ∧ g < B ∧ W.cell? ⟨g, off + i * 2, none⟩ = some (.string (textQ s.2.2[i].1)) ∧ W.cell? ⟨g, off + i * 2 + 1, none⟩ = some (.string (textQ s.2.2[i].2))) := Lib.hid fun W hW i hi => by
    obtain ⟨ao2, cap2, e, _, _, h4⟩ := h.below hW hB
    cases e
    exact h4 i hi
  have Hat2 : Hid (∀ W, Below w.heap.size w W → ∀ i (hi : i < t.2.2.length), ∃ g off, bo = some ⟨g, off, none⟩ ∧ g < B ∧ W.cell? ⟨g, off + i * 2, none⟩ = some (.string (textQ t.2.2[i].1)) ∧ W.cell? ⟨g, off + i * 2 + 1, none⟩ = some (.string (textQ t.2.2[i].2))) := Lib.hid fun W hW i hi => by
    obtain ⟨ao2, cap2, e, _, _, h4⟩ := h2.below hW hB
    cases e
    exact h4 i hi
  have e : decide (s = t) = ((s.1 == t.1) && ((s.2.1 == t.2.1) && decide (s.2.2 = t.2.2))) := by
    obtain ⟨s1, s2, s3⟩ := s
    obtain ⟨t1, t2, t3⟩ := t
    have hb : ∀ a b : TextA, (a == b) = decide (a = b) := fun a b => by by_cases h : a = b <;> simp [h]
    rw [hb, hb]
    simp [Prod.ext_iff, Bool.decide_and]
  rw [e]
  clear e
  unfold typeV
  unfold maxLen at hc2 hd2
  rw [← str_eqC s.1 t.1, ← str_eqC s.2.1 t.2.1]
  obtain ⟨X, hX⟩ : ∃ X, textQ s.1 = X := ⟨_, rfl⟩
  obtain ⟨Y, hY⟩ : ∃ Y, textQ s.2.1 = Y := ⟨_, rfl⟩
  obtain ⟨X2, hX2⟩ : ∃ X, textQ t.1 = X := ⟨_, rfl⟩
  obtain ⟨Y2, hY2⟩ : ∃ Y, textQ t.2.1 = Y := ⟨_, rfl⟩
  obtain ⟨n, hn⟩ : ∃ n, s.2.2.length = n := ⟨_, rfl⟩
  obtain ⟨k, hk⟩ : ∃ k, t.2.2.length = k := ⟨_, rfl⟩
  obtain ⟨b3, hb3⟩ : ∃ b, decide (s.2.2 = t.2.2) = b := ⟨_, rfl⟩
  rw [hX, hY, hX2, hY2, hn, hk, hb3]
  rw [hn] at hc1
  rw [hk] at hd1
  have HN := Lib.hid (And.intro hn (And.intro hk hb3))
  obtain ⟨w0, hw0⟩ : ∃ w0, (w.alloc (.cells #[.string X, .string Y, .slice ao n cap] 24)).alloc (.cells #[.string X2, .string Y2, .slice bo k cap2] 24) = w0 := ⟨_, rfl⟩
  have b0 : Below w.heap.size w w0 := by rw [← hw0]; exact ((Below.refl _ _).alloc (Nat.le_refl _) _).alloc (by simp) _
  have t0 : TypAt w0 w.heap.size X Y ao n cap := by rw [← hw0]; exact (typ_new w _ _ _ _ _).below ((Below.refl _ _).alloc (Nat.le_refl _) _)
  have t1 : TypAt w0 (w.heap.size + 1) X2 Y2 bo k cap2 := by
    rw [← hw0]
    have := typ_new (w.alloc (.cells #[.string X, .string Y, .slice ao n cap] 24)) X2 Y2 bo k cap2
    rw [World.size_alloc] at this
    exact this
  obtain ⟨c0, c1, c2, _⟩ := t0.cells
  obtain ⟨d0, d1, d2, _⟩ := t1.cells
  have K0 : Hid (Below w.heap.size w w0 ∧ TypAt w0 w.heap.size X Y ao n cap ∧ TypAt w0 (w.heap.size + 1) X2 Y2 bo k cap2) := Lib.hid ⟨b0, t0, t1⟩
  have step : Hid (∀ W W', (Below w.heap.size w W ∧ TypAt W w.heap.size X Y ao n cap ∧ TypAt W (w.heap.size + 1) X2 Y2 bo k cap2) → Below W.heap.size W W' → (Below w.heap.size w W' ∧ TypAt W' w.heap.size X Y ao n cap ∧ TypAt W' (w.heap.size + 1) X2 Y2 bo k cap2)) := Lib.hid fun W W' ⟨h1, h2, h3⟩ hb => ⟨h1.trans (hb.mono h1.size), h2.below hb, h3.below hb⟩
  clear h h2 hX hY hX2 hY2 hn hk hb3 b0 t0 t1
  cases q1 : (X.toList == X2.toList) with
  | false =>
    go_enter Tryd.func16, Tryd.ntmps16
    go_wp2
    go_ret
    exact ⟨rfl, K0.out.1⟩
  | true =>
    cases q2 : (Y.toList == Y2.toList) with
    | false =>
      go_enter Tryd.func16, Tryd.ntmps16
      go_wp2
      go_ret
      exact ⟨rfl, K0.out.1⟩
    | true =>
      by_cases hnk : n = k
      · subst hnk
        go_enter Tryd.func16, Tryd.ntmps16
        go_wp2
        clear c0 c1 c2 d0 d1 d2
        go_loopw [5] (fun iv wr => ∃ i : Nat, i ≤ n ∧ iv = .int .i64 i ∧ Hid (∀ j (hj : j < s.2.2.length) (hj2 : j < t.2.2.length), j < i → s.2.2[j] = t.2.2[j]) ∧ Hid (Below w.heap.size w wr ∧ TypAt wr w.heap.size X Y ao n cap ∧ TypAt wr (w.heap.size + 1) X2 Y2 bo n cap2)) (fun iv _ => n - (intOf iv).toNat)
        case atStart => exact ⟨0, by omega, rfl, Lib.hid (fun j _ _ h => by omega), K0⟩
        case round =>
          obtain ⟨i, hi, rfl, hg, hk⟩ := hrel
          clear K0
          obtain ⟨c0, c1, c2, _⟩ := hk.out.2.1.cells
          obtain ⟨d0, d1, d2, _⟩ := hk.out.2.2.cells
          by_cases hlt : i < n
          · have hil : i < s.2.2.length := by rw [HN.out.1]; exact hlt
            have him : i < t.2.2.length := by rw [HN.out.2.1]; exact hlt
            obtain ⟨g, off, rfl, hgB, y0, y1⟩ := Hat.out wr hk.out.1 i hil
            obtain ⟨g2, off2, rfl, hgB2, v0, v1⟩ := Hat2.out wr hk.out.1 i him
            have hyes : Hid (s.2.2[i] = t.2.2[i] → ∀ j (hj : j < s.2.2.length) (hj2 : j < t.2.2.length), j < i + 1 → s.2.2[j] = t.2.2[j]) := Lib.hid fun h j hj hj2 h3 => by
              rcases Nat.lt_or_ge j i with h4 | h4
              · exact hg.out j hj hj2 h4
              · obtain rfl : j = i := by omega
                exact h
            have hno : Hid (s.2.2[i] ≠ t.2.2[i] → b3 = false) := Lib.hid fun h => by
              rw [← HN.out.2.2]
              refine decide_eq_false (fun e => h ?_)
              simp only [e]
            obtain ⟨f, hf⟩ : ∃ f, s.2.2[i] = f := ⟨_, rfl⟩
            obtain ⟨f2, hf2⟩ : ∃ f, t.2.2[i] = f := ⟨_, rfl⟩
            rw [hf] at y0 y1 hyes hno
            rw [hf2] at v0 v1 hyes hno
            obtain ⟨P, hP⟩ : ∃ X, textQ f.1 = X := ⟨_, rfl⟩
            obtain ⟨Q, hQ⟩ : ∃ Y, textQ f.2 = Y := ⟨_, rfl⟩
            obtain ⟨P2, hP2⟩ : ∃ X, textQ f2.1 = X := ⟨_, rfl⟩
            obtain ⟨Q2, hQ2⟩ : ∃ Y, textQ f2.2 = Y := ⟨_, rfl⟩
            have e1 : (P.toList == P2.toList) = (f.1 == f2.1) := by rw [← hP, ← hP2, str_eqC]
            have e2 : (Q.toList == Q2.toList) = (f.2 == f2.2) := by rw [← hQ, ← hQ2, str_eqC]
            rw [hP] at y0
            rw [hQ] at y1
            rw [hP2] at v0
            rw [hQ2] at v1
            have hcm := fun W => run_par_neq P Q P2 Q2 W
            have hgd := fun x y W => run_par_guard x y P Q P2 Q2 W
            rw [e1, e2] at hcm
            obtain ⟨b, hb⟩ : ∃ b, (!((f.1 == f2.1) && (f.2 == f2.2))) = b := ⟨_, rfl⟩
            simp only [hb] at hcm
            clear hil him hf hf2 hP hQ hP2 hQ2 hg e1 e2
            cases b with
            | true =>
              have Hn := Lib.hid (hno.out (by rintro rfl; simp at hb))
              clear hyes hno hb
              go_wp2_with fail
              go_quiet (fail)
              have hb9 := (step.out _ _ hk.out (below_drewN (Below.refl wr.heap.size wr) nq)).1
              go_wp2
              go_ret
              exact ⟨by rw [Hn.out]; rfl, hb9⟩
            | false =>
              have Hn := Lib.hid (hyes.out (by
                simp only [Bool.not_eq_false', Bool.and_eq_true, beq_iff_eq] at hb
                exact Prod.ext hb.1 hb.2))
              clear hyes hno hb
              go_wp2_with fail
              go_quiet (fail)
              have hb9 := Lib.hid (step.out _ _ hk.out (below_drewN (Below.refl wr.heap.size wr) nq))
              clear hk
              go_wp2
              go_roundw
              case rel => exact ⟨i + 1, by omega, by go_num, Hn, hb9⟩
              case measure => simp [intOf]; omega
          · obtain rfl : i = n := by omega
            have hall : b3 = true := by
              rw [← HN.out.2.2]
              exact decide_eq_true (List.ext_getElem (by rw [HN.out.1, HN.out.2.1]) fun j h1 h2 => hg.out j h1 h2 (by rw [← HN.out.1]; exact h1))
            subst hall
            clear hg
            go_wp2
            go_ret
            exact ⟨rfl, hk.out.1⟩
      · have hb : b3 = false := by
          rw [← HN.out.2.2]
          exact decide_eq_false (fun e => hnk (by rw [← HN.out.1, ← HN.out.2.1, e]))
        subst hb
        have hnk2 : ((n : Int) == (k : Int)) = false := by rw [beq_eq_false_iff_ne]; omega
        go_enter Tryd.func16, Tryd.ntmps16
        go_wp2
        go_ret
        exact ⟨rfl, K0.out.1⟩

set_option maxRecDepth 100000 in
set_option maxHeartbeats 4000000 in
theorem r12param_any (B : Nat) (v : Value) (t : TypeC) (q : TextA) (w : World) (h : ParsAt w B v t.2.2) (hB : B ≤ w.heap.size) :
    Calls Tryd.prog 15 #[typeV t v, .string (textQ q)] w fun e w' => e = .returned (paramV t.2.2 q) ∧ Below w.heap.size w w' := by
  obtain ⟨ao, cap, rfl, hc1, hc2⟩ := h.slice
  have Hat : Hid (∀ W, Below w.heap.size w W → ∀ i (hi : i < t.2.2.length), ∃ g off, ao = some ⟨g, off, none⟩ ∧ g < B ∧ W.cell? ⟨g, off + i * 2, none⟩ = some (.string (textQ t.2.2[i].1)) ∧ W.cell? ⟨g, off + i * 2 + 1, none⟩ = some (.string (textQ t.2.2[i].2))) := Lib.hid fun W hW i hi => by
    obtain ⟨ao2, cap2, e, _, _, h4⟩ := h.below hW hB
    cases e
    exact h4 i hi
  unfold typeV
  unfold maxLen at hc2
  obtain ⟨X, hX⟩ : ∃ X, textQ t.1 = X := ⟨_, rfl⟩
  obtain ⟨Y, hY⟩ : ∃ Y, textQ t.2.1 = Y := ⟨_, rfl⟩
  obtain ⟨Z, hZ⟩ : ∃ Y, textQ q = Y := ⟨_, rfl⟩
  obtain ⟨n, hn⟩ : ∃ n, t.2.2.length = n := ⟨_, rfl⟩
  obtain ⟨PV, hPV⟩ : ∃ PV, paramV t.2.2 q = PV := ⟨_, rfl⟩
  rw [hX, hY, hZ, hn, hPV]
  rw [hn] at hc1
  have HN := Lib.hid (And.intro hn (And.intro hPV hZ))
  obtain ⟨w0, hw0⟩ : ∃ w0, w.alloc (.cells #[.string X, .string Y, .slice ao n cap] 24) = w0 := ⟨_, rfl⟩
  have b0 : Below w.heap.size w w0 := by rw [← hw0]; exact (Below.refl _ _).alloc (Nat.le_refl _) _
  have t0 : TypAt w0 w.heap.size X Y ao n cap := by rw [← hw0]; exact typ_new w _ _ _ _ _
  obtain ⟨c0, c1, c2, _⟩ := t0.cells
  clear h hX hY hZ hn hPV t0
  go_enter Tryd.func15, Tryd.ntmps15
  go_wp2
  go_loopw [6] (fun iv wr => ∃ i : Nat, i ≤ n ∧ iv = .int .i64 i ∧ Hid (∀ j (hj : j < t.2.2.length), j < i → t.2.2[j].1 ≠ q) ∧ wr = w0) (fun iv _ => n - (intOf iv).toNat)
  case atStart => exact ⟨0, by omega, rfl, Lib.hid (fun j _ h => by omega), (by first | rfl | trivial)⟩
  case round =>
    obtain ⟨i, hi, rfl, hg, hwr⟩ := hrel
    obtain rfl := hwr.symm
    clear hwr
    by_cases hlt : i < n
    · have hil : i < t.2.2.length := by rw [HN.out.1]; exact hlt
      obtain ⟨g, off, rfl, hgB, z0, z1⟩ := Hat.out w0 b0 i hil
      have hhit : Hid (t.2.2[i].1 = q → PV = .tuple #[.string (textQ t.2.2[i].2), .bool true]) := Lib.hid fun e => by
        rw [← HN.out.2.1]
        unfold paramV
        have hff : findC t.2.2 q = some t.2.2[i] := by
          rcases idx_cases t.2.2 q with ⟨h1, h2, h3⟩ | ⟨j, hj, h1, h2, h3⟩
          · exact absurd (idx_at t.2.2 q i hil e (fun j hj hji => hg.out j hj hji)) (by rw [h1]; omega)
          · have := idx_at t.2.2 q i hil e (fun j hj hji => hg.out j hj hji)
            rw [h1] at this
            obtain rfl : j = i := by omega
            exact h2
        rw [hff]
      have hyes : Hid (t.2.2[i].1 ≠ q → ∀ j (hj : j < t.2.2.length), j < i + 1 → t.2.2[j].1 ≠ q) := Lib.hid fun h j hj h3 => by
        rcases Nat.lt_or_ge j i with h4 | h4
        · exact hg.out j hj h4
        · obtain rfl : j = i := by omega
          exact h
      obtain ⟨f, hf⟩ : ∃ f, t.2.2[i] = f := ⟨_, rfl⟩
      rw [hf] at z0 z1 hhit hyes
      obtain ⟨P, hP⟩ : ∃ X, textQ f.1 = X := ⟨_, rfl⟩
      obtain ⟨Q, hQ⟩ : ∃ X, textQ f.2 = X := ⟨_, rfl⟩
      have heq : (P.toList == Z.toList) = (f.1 == q) := by rw [← hP, ← HN.out.2.2, str_eqC]
      rw [hP] at z0
      rw [hQ] at z1 hhit
      clear hil hf hP hQ hg
      cases he : (f.1 == q) with
      | true =>
        rw [he] at heq
        have Hr := Lib.hid (hhit.out (by simpa using he))
        clear hhit hyes he
        go_wp2
        go_ret2
        exact ⟨by rw [Hr.out]; rfl, b0⟩
      | false =>
        rw [he] at heq
        have Hr := Lib.hid (hyes.out (beq_eq_false_iff_ne.1 he))
        clear hhit hyes he
        go_wp2
        go_roundw
        case rel => exact ⟨i + 1, by omega, by go_num, Hr, (by first | rfl | trivial)⟩
        case measure => simp [intOf]; omega
    · obtain rfl : i = n := by omega
      have Hr : Hid (PV = .tuple #[.string ⟨#[]⟩, .bool false]) := Lib.hid (by
        rw [← HN.out.2.1]
        unfold paramV
        have hff : findC t.2.2 q = none := by
          rcases idx_cases t.2.2 q with ⟨h1, h2, h3⟩ | ⟨j, hj, h1, h2, h3⟩
          · exact h2
          · have := idx_none t.2.2 q (fun j hj => hg.out j hj (by rw [← HN.out.1]; exact hj))
            rw [h1] at this
            omega
        rw [hff])
      clear hg
      go_wp2
      go_ret2
      exact ⟨by rw [Hr.out]; rfl, b0⟩
end Go.Proofs.YtafpifpgfpkckaaDoor
