/-
  Texts of this proof, put together: R12C, R13S.
-/
import Derived.Test.YtidlpdiephlkhaaGreatDoorT36
import Derived.Laws.StructEq
import Derived.Test.YtidlpdiephlkhaaGreatDoorT34
import Derived.Test.YtidlpdiephlkhaaGreatDoorT35
import Derived.Deep.RegionHeld3
namespace Go.Proofs.YtidlpdiephlkhaaGreatDoor
open Go.RowKit

set_option maxRecDepth 100000 in
set_option maxHeartbeats 4000000 in
theorem r12same_any (B : Nat) (v u : Value) (s t : TypeC) (w : World) (h : ParsAt w B v s.2.2) (h2 : ParsAt w B u t.2.2) (hB : B ≤ w.heap.size) :
    Calls Tryz.prog 33 #[typeV s v, typeV t u] w fun e w' => e = .returned (.bool (decide (s = t))) ∧ Below w.heap.size w w' := by
  obtain ⟨ao, cap, rfl, hc1, hc2⟩ := h.slice
  obtain ⟨bo, cap2, rfl, hd1, hd2⟩ := h2.slice
  have Hat : Hid (∀ W, Below w.heap.size w W → ∀ i (hi : i < s.2.2.length), ∃ g off, ao = some ⟨g, off, none⟩ ∧ g < B ∧ W.cell? ⟨g, off + i * 2, none⟩ = some (.string (textQ s.2.2[i].1)) ∧ W.cell? ⟨g, off + i * 2 + 1, none⟩ = some (.string (textQ s.2.2[i].2))) := Lib.hid fun W hW i hi => by
    obtain ⟨ao2, cap2, e, _, _, h4⟩ := h.below hW hB
    cases e
    exact h4 i hi
  have Hat2 : Hid (∀ W, Below w.heap.size w W → ∀ i (hi : i < t.2.2.length), ∃ g off, bo = some ⟨g, off, none⟩ ∧ g < B ∧ W.cell? ⟨g, off + i * 2, none⟩ = some (.string (textQ t.2.2[i].1)) ∧ W.cell? ⟨g, off + i * 2 + 1, none⟩ = some (.string (textQ t.2.2[i].2))) := Lib.hid fun W hW i hi => by
    obtain ⟨ao2, cap2, e, _, _, h4⟩ := h2.below hW hB
    cases e
    exact h4 i hi
  have e : decide (s = t) = ((s.1 == t.1) && ((s.2.1 == t.2.1) && decide (s.2.2 = t.2.2))) := by
    obtain ⟨s1, s2, s3⟩ := s
    obtain ⟨t1, t2, t3⟩ := t
    have hb : ∀ a b : TextA, (a == b) = decide (a = b) := fun a b => by by_cases h : a = b <;> simp [h]
    rw [hb, hb]
    simp [Prod.ext_iff, Bool.decide_and]
  rw [e]
  clear e
  unfold typeV
  unfold maxLen at hc2 hd2
  rw [← str_eqC s.1 t.1, ← str_eqC s.2.1 t.2.1]
  obtain ⟨X, hX⟩ : ∃ X, textQ s.1 = X := ⟨_, rfl⟩
  obtain ⟨Y, hY⟩ : ∃ Y, textQ s.2.1 = Y := ⟨_, rfl⟩
  obtain ⟨X2, hX2⟩ : ∃ X, textQ t.1 = X := ⟨_, rfl⟩
  obtain ⟨Y2, hY2⟩ : ∃ Y, textQ t.2.1 = Y := ⟨_, rfl⟩
  obtain ⟨n, hn⟩ : ∃ n, s.2.2.length = n := ⟨_, rfl⟩
  obtain ⟨k, hk⟩ : ∃ k, t.2.2.length = k := ⟨_, rfl⟩
  obtain ⟨b3, hb3⟩ : ∃ b, decide (s.2.2 = t.2.2) = b := ⟨_, rfl⟩
  rw [hX, hY, hX2, hY2, hn, hk, hb3]
  rw [hn] at hc1
  rw [hk] at hd1
  have HN := Lib.hid (And.intro hn (And.intro hk hb3))
  obtain ⟨w0, hw0⟩ : ∃ w0, (w.alloc (.cells #[.string X, .string Y, .slice ao n cap] 26)).alloc (.cells #[.string X2, .string Y2, .slice bo k cap2] 26) = w0 := ⟨_, rfl⟩
  have b0 : Below w.heap.size w w0 := by rw [← hw0]; exact ((Below.refl _ _).alloc (Nat.le_refl _) _).alloc (by simp) _
  have t0 : TypAt w0 w.heap.size X Y ao n cap := by rw [← hw0]; exact (typ_new w _ _ _ _ _).below ((Below.refl _ _).alloc (Nat.le_refl _) _)
  have t1 : TypAt w0 (w.heap.size + 1) X2 Y2 bo k cap2 := by
    rw [← hw0]
    have := typ_new (w.alloc (.cells #[.string X, .string Y, .slice ao n cap] 26)) X2 Y2 bo k cap2
    rw [World.size_alloc] at this
    exact this
  obtain ⟨c0, c1, c2, _⟩ := t0.cells
  obtain ⟨d0, d1, d2, _⟩ := t1.cells
  have K0 : Hid (Below w.heap.size w w0 ∧ TypAt w0 w.heap.size X Y ao n cap ∧ TypAt w0 (w.heap.size + 1) X2 Y2 bo k cap2) := Lib.hid ⟨b0, t0, t1⟩
  have step : Hid (∀ W W', (Below w.heap.size w W ∧ TypAt W w.heap.size X Y ao n cap ∧ TypAt W (w.heap.size + 1) X2 Y2 bo k cap2) → Below W.heap.size W W' → (Below w.heap.size w W' ∧ TypAt W' w.heap.size X Y ao n cap ∧ TypAt W' (w.heap.size + 1) X2 Y2 bo k cap2)) := Lib.hid fun W W' ⟨h1, h2, h3⟩ hb => ⟨h1.trans (hb.mono h1.size), h2.below hb, h3.below hb⟩
  clear h h2 hX hY hX2 hY2 hn hk hb3 b0 t0 t1
  cases q1 : (X.toList == X2.toList) with
  | false =>
    go_enter Tryz.func33, Tryz.ntmps33
    go_wp2
    go_ret
    exact ⟨rfl, K0.out.1⟩
  | true =>
    cases q2 : (Y.toList == Y2.toList) with
    | false =>
      go_enter Tryz.func33, Tryz.ntmps33
      go_wp2
      go_ret
      exact ⟨rfl, K0.out.1⟩
    | true =>
      by_cases hnk : n = k
      · subst hnk
        go_enter Tryz.func33, Tryz.ntmps33
        go_wp2
        clear c0 c1 c2 d0 d1 d2
        go_loopw [5] (fun iv wr => ∃ i : Nat, i ≤ n ∧ iv = .int .i64 i ∧ Hid (∀ j (hj : j < s.2.2.length) (hj2 : j < t.2.2.length), j < i → s.2.2[j] = t.2.2[j]) ∧ Hid (Below w.heap.size w wr ∧ TypAt wr w.heap.size X Y ao n cap ∧ TypAt wr (w.heap.size + 1) X2 Y2 bo n cap2)) (fun iv _ => n - (intOf iv).toNat)
        case atStart => exact ⟨0, by omega, rfl, Lib.hid (fun j _ _ h => by omega), K0⟩
        case round =>
          obtain ⟨i, hi, rfl, hg, hk⟩ := hrel
          clear K0
          obtain ⟨c0, c1, c2, _⟩ := hk.out.2.1.cells
          obtain ⟨d0, d1, d2, _⟩ := hk.out.2.2.cells
          by_cases hlt : i < n
          · have hil : i < s.2.2.length := by rw [HN.out.1]; exact hlt
            have him : i < t.2.2.length := by rw [HN.out.2.1]; exact hlt
            obtain ⟨g, off, rfl, hgB, y0, y1⟩ := Hat.out wr hk.out.1 i hil
            obtain ⟨g2, off2, rfl, hgB2, v0, v1⟩ := Hat2.out wr hk.out.1 i him
            have hyes : Hid (s.2.2[i] = t.2.2[i] → ∀ j (hj : j < s.2.2.length) (hj2 : j < t.2.2.length), j < i + 1 → s.2.2[j] = t.2.2[j]) := Lib.hid fun h j hj hj2 h3 => by
              rcases Nat.lt_or_ge j i with h4 | h4
              · exact hg.out j hj hj2 h4
              · obtain rfl : j = i := by omega
                exact h
            have hno : Hid (s.2.2[i] ≠ t.2.2[i] → b3 = false) := Lib.hid fun h => by
              rw [← HN.out.2.2]
              refine decide_eq_false (fun e => h ?_)
              simp only [e]
            obtain ⟨f, hf⟩ : ∃ f, s.2.2[i] = f := ⟨_, rfl⟩
            obtain ⟨f2, hf2⟩ : ∃ f, t.2.2[i] = f := ⟨_, rfl⟩
            rw [hf] at y0 y1 hyes hno
            rw [hf2] at v0 v1 hyes hno
            obtain ⟨P, hP⟩ : ∃ X, textQ f.1 = X := ⟨_, rfl⟩
            obtain ⟨Q, hQ⟩ : ∃ Y, textQ f.2 = Y := ⟨_, rfl⟩
            obtain ⟨P2, hP2⟩ : ∃ X, textQ f2.1 = X := ⟨_, rfl⟩
            obtain ⟨Q2, hQ2⟩ : ∃ Y, textQ f2.2 = Y := ⟨_, rfl⟩
            have e1 : (P.toList == P2.toList) = (f.1 == f2.1) := by rw [← hP, ← hP2, str_eqC]
            have e2 : (Q.toList == Q2.toList) = (f.2 == f2.2) := by rw [← hQ, ← hQ2, str_eqC]
            rw [hP] at y0
            rw [hQ] at y1
            rw [hP2] at v0
            rw [hQ2] at v1
            have hcm := fun W => run_par_neq P Q P2 Q2 W
            have hgd := fun x y W => run_par_guard x y P Q P2 Q2 W
            rw [e1, e2] at hcm
            obtain ⟨b, hb⟩ : ∃ b, (!((f.1 == f2.1) && (f.2 == f2.2))) = b := ⟨_, rfl⟩
            simp only [hb] at hcm
            clear hil him hf hf2 hP hQ hP2 hQ2 hg e1 e2
            cases b with
            | true =>
              have Hn := Lib.hid (hno.out (by rintro rfl; simp at hb))
              clear hyes hno hb
              go_wp2_with fail
              go_quiet (fail)
              have hb9 := (step.out _ _ hk.out (below_drewN (Below.refl wr.heap.size wr) nq)).1
              go_wp2
              go_ret
              exact ⟨by rw [Hn.out]; rfl, hb9⟩
            | false =>
              have Hn := Lib.hid (hyes.out (by
                simp only [Bool.not_eq_false', Bool.and_eq_true, beq_iff_eq] at hb
                exact Prod.ext hb.1 hb.2))
              clear hyes hno hb
              go_wp2_with fail
              go_quiet (fail)
              have hb9 := Lib.hid (step.out _ _ hk.out (below_drewN (Below.refl wr.heap.size wr) nq))
              clear hk
              go_wp2
              go_roundw
              case rel => exact ⟨i + 1, by omega, by go_num, Hn, hb9⟩
              case measure => simp [intOf]; omega
          · obtain rfl : i = n := by omega
            have hall : b3 = true := by
              rw [← HN.out.2.2]
              exact decide_eq_true (List.ext_getElem (by rw [HN.out.1, HN.out.2.1]) fun j h1 h2 => hg.out j h1 h2 (by rw [← HN.out.1]; exact h1))
            subst hall
            clear hg
            go_wp2
            go_ret
            exact ⟨rfl, hk.out.1⟩
      · have hb : b3 = false := by
          rw [← HN.out.2.2]
          exact decide_eq_false (fun e => hnk (by rw [← HN.out.1, ← HN.out.2.1, e]))
        subst hb
        have hnk2 : ((n : Int) == (k : Int)) = false := by rw [beq_eq_false_iff_ne]; omega
        go_enter Tryz.func33, Tryz.ntmps33
        go_wp2
        go_ret
        exact ⟨rfl, K0.out.1⟩

set_option maxRecDepth 100000 in
set_option maxHeartbeats 4000000 in
theorem r12param_any (B : Nat) (v : Value) (t : TypeC) (q : TextA) (w : World) (h : ParsAt w B v t.2.2) (hB : B ≤ w.heap.size) :
    Calls Tryz.prog 65 #[typeV t v, .string (textQ q)] w fun e w' => e = .returned (paramV t.2.2 q) ∧ Below w.heap.size w w' := by
  obtain ⟨ao, cap, rfl, hc1, hc2⟩ := h.slice
  have Hat : Hid (∀ W, Below w.heap.size w W → ∀ i (hi : i < t.2.2.length), ∃ g off, ao = some ⟨g, off, none⟩ ∧ g < B ∧ W.cell? ⟨g, off + i * 2, none⟩ = some (.string (textQ t.2.2[i].1)) ∧ W.cell? ⟨g, off + i * 2 + 1, none⟩ = some (.string (textQ t.2.2[i].2))) := Lib.hid fun W hW i hi => by
    obtain ⟨ao2, cap2, e, _, _, h4⟩ := h.below hW hB
    cases e
    exact h4 i hi
  unfold typeV
  unfold maxLen at hc2
  obtain ⟨X, hX⟩ : ∃ X, textQ t.1 = X := ⟨_, rfl⟩
  obtain ⟨Y, hY⟩ : ∃ Y, textQ t.2.1 = Y := ⟨_, rfl⟩
  obtain ⟨Z, hZ⟩ : ∃ Y, textQ q = Y := ⟨_, rfl⟩
  obtain ⟨n, hn⟩ : ∃ n, t.2.2.length = n := ⟨_, rfl⟩
  obtain ⟨PV, hPV⟩ : ∃ PV, paramV t.2.2 q = PV := ⟨_, rfl⟩
  rw [hX, hY, hZ, hn, hPV]
  rw [hn] at hc1
  have HN := Lib.hid (And.intro hn (And.intro hPV hZ))
  obtain ⟨w0, hw0⟩ : ∃ w0, w.alloc (.cells #[.string X, .string Y, .slice ao n cap] 26) = w0 := ⟨_, rfl⟩
  have b0 : Below w.heap.size w w0 := by rw [← hw0]; exact (Below.refl _ _).alloc (Nat.le_refl _) _
  have t0 : TypAt w0 w.heap.size X Y ao n cap := by rw [← hw0]; exact typ_new w _ _ _ _ _
  obtain ⟨c0, c1, c2, _⟩ := t0.cells
  clear h hX hY hZ hn hPV t0
  go_enter Tryz.func65, Tryz.ntmps65
  go_wp2
  go_loopw [6] (fun iv wr => ∃ i : Nat, i ≤ n ∧ iv = .int .i64 i ∧ Hid (∀ j (hj : j < t.2.2.length), j < i → t.2.2[j].1 ≠ q) ∧ wr = w0) (fun iv _ => n - (intOf iv).toNat)
  case atStart => exact ⟨0, by omega, rfl, Lib.hid (fun j _ h => by omega), (by first | rfl | trivial)⟩
  case round =>
    obtain ⟨i, hi, rfl, hg, hwr⟩ := hrel
    obtain rfl := hwr.symm
    clear hwr
    by_cases hlt : i < n
    · have hil : i < t.2.2.length := by rw [HN.out.1]; exact hlt
      obtain ⟨g, off, rfl, hgB, z0, z1⟩ := Hat.out w0 b0 i hil
      have hhit : Hid (t.2.2[i].1 = q → PV = .tuple #[.string (textQ t.2.2[i].2), .bool true]) := Lib.hid fun e => by
        rw [← HN.out.2.1]
        unfold paramV
        have hff : findC t.2.2 q = some t.2.2[i] := by
          rcases idx_cases t.2.2 q with ⟨h1, h2, h3⟩ | ⟨j, hj, h1, h2, h3⟩
          · exact absurd (idx_at t.2.2 q i hil e (fun j hj hji => hg.out j hj hji)) (by rw [h1]; omega)
          · have := idx_at t.2.2 q i hil e (fun j hj hji => hg.out j hj hji)
            rw [h1] at this
            obtain rfl : j = i := by omega
            exact h2
        rw [hff]
      have hyes : Hid (t.2.2[i].1 ≠ q → ∀ j (hj : j < t.2.2.length), j < i + 1 → t.2.2[j].1 ≠ q) := Lib.hid fun h j hj h3 => by
        rcases Nat.lt_or_ge j i with h4 | h4
        · exact hg.out j hj h4
        · obtain rfl : j = i := by omega
          exact h
      obtain ⟨f, hf⟩ : ∃ f, t.2.2[i] = f := ⟨_, rfl⟩
      rw [hf] at z0 z1 hhit hyes
      obtain ⟨P, hP⟩ : ∃ X, textQ f.1 = X := ⟨_, rfl⟩
      obtain ⟨Q, hQ⟩ : ∃ X, textQ f.2 = X := ⟨_, rfl⟩
      have heq : (P.toList == Z.toList) = (f.1 == q) := by rw [← hP, ← HN.out.2.2, str_eqC]
      rw [hP] at z0
      rw [hQ] at z1 hhit
      clear hil hf hP hQ hg
      cases he : (f.1 == q) with
      | true =>
        rw [he] at heq
        have Hr := Lib.hid (hhit.out (by simpa using he))
        clear hhit hyes he
        go_wp2
        go_ret2
        exact ⟨by rw [Hr.out]; rfl, b0⟩
      | false =>
        rw [he] at heq
        have Hr := Lib.hid (hyes.out (beq_eq_false_iff_ne.1 he))
        clear hhit hyes he
        go_wp2
        go_roundw
        case rel => exact ⟨i + 1, by omega, by go_num, Hr, (by first | rfl | trivial)⟩
        case measure => simp [intOf]; omega
    · obtain rfl : i = n := by omega
      have Hr : Hid (PV = .tuple #[.string ⟨#[]⟩, .bool false]) := Lib.hid (by
        rw [← HN.out.2.1]
        unfold paramV
        have hff : findC t.2.2 q = none := by
          rcases idx_cases t.2.2 q with ⟨h1, h2, h3⟩ | ⟨j, hj, h1, h2, h3⟩
          · exact h2
          · have := idx_noneC t.2.2 q (fun j hj => hg.out j hj (by rw [← HN.out.1]; exact hj))
            rw [h1] at this
            omega
        rw [hff])
      clear hg
      go_wp2
      go_ret2
      exact ⟨by rw [Hr.out]; rfl, b0⟩
end Go.Proofs.YtidlpdiephlkhaaGreatDoor
namespace Go.Proofs.YtidlpdiephlkhaaGreatDoor
open Go.RowKit

/-- What the document's asking whether two trees are the same comes to. -/
def SameR (B : Nat) (p : TreeM) : Prop := ∀ (q : TreeM) (fv pv rv fu pu ru : Value) (W : World), TreeAt W B p fv pv rv → TreeAt W B q fu pu ru → B ≤ W.heap.size →
    Calls Tryz.prog 13 #[partV p fv pv rv, partV q fu pu ru] W fun e w' => e = .returned (.bool (decide (p = q))) ∧ Below W.heap.size W w'

set_option maxRecDepth 100000 in
set_option maxHeartbeats 16000000 in
theorem r13same_any (B : Nat) : ∀ (k : Nat) (p : TreeM), countM p ≤ k → SameR B p
  | 0, p, hk => by
    have := count_pos p
    omega
  | k + 1, p, hk => by
    intro q fv pv rv fu pu ru w h h2 hB
    obtain ⟨⟨a1, n1, q1, rfl⟩, ⟨a2, n2, q2, rfl⟩, _⟩ := h.slices
    obtain ⟨⟨a4, n4, q4, rfl⟩, ⟨a5, n5, q5, rfl⟩, _⟩ := h2.slices
    obtain ⟨a3, q3, rfl, hc3, hm3⟩ := h.len
    obtain ⟨a6, q6, rfl, hc6, hm6⟩ := h2.len
    have hrec : Hid (∀ x ∈ p.parts, SameR B x) := Lib.hid fun x hx => r13same_any B k x (by have := count_parts p; have := count_mem hx; omega)
    have he1 : Hid (∀ W, Below w.heap.size w W → Calls Tryz.prog 20 #[.slice a1 n1 q1, .slice a4 n4 q4] W fun e w' => e = .returned (.bool (decide (p.fields = q.fields))) ∧ Below W.heap.size W w') := Lib.hid fun W hW => r10fields_any B _ _ _ _ W ((h.below hW hB).f) ((h2.below hW hB).f) (Nat.le_trans hB hW.size)
    have he2 : Hid (∀ W, Below w.heap.size w W → Calls Tryz.prog 33 #[typeV p.typ (.slice a2 n2 q2), typeV q.typ (.slice a5 n5 q5)] W fun e w' => e = .returned (.bool (decide (p.typ = q.typ))) ∧ Below W.heap.size W w') := Lib.hid fun W hW => r12same_any B _ _ _ _ W ((h.below hW hB).t) ((h2.below hW hB).t) (Nat.le_trans hB hW.size)
    have hA : Hid (∀ W, Below w.heap.size w W → TreeAt W B p (.slice a1 n1 q1) (.slice a2 n2 q2) (.slice a3 p.parts.length q3) ∧ TreeAt W B q (.slice a4 n4 q4) (.slice a5 n5 q5) (.slice a6 q.parts.length q6) ∧ B ≤ W.heap.size) := Lib.hid fun W hW => ⟨h.below hW hB, h2.below hW hB, Nat.le_trans hB hW.size⟩
    rw [tree_eq4]
    have hbb : ((textQ p.body).toList == (textQ q.body).toList) = decide (p.body = q.body) := by
      rw [Lib.toList_data, Lib.toList_data]
      show (p.body == q.body) = _
      rw [Bool.eq_iff_iff, beq_iff_eq, decide_eq_true_eq]
    unfold typeV at he2
    unfold partV
    unfold maxLen at hm3 hm6
    obtain ⟨X, hX⟩ : ∃ X, textQ p.typ.1 = X := ⟨_, rfl⟩
    obtain ⟨Y, hY⟩ : ∃ X, textQ p.typ.2.1 = X := ⟨_, rfl⟩
    obtain ⟨D, hD⟩ : ∃ X, textQ p.body = X := ⟨_, rfl⟩
    obtain ⟨X2, hX2⟩ : ∃ X, textQ q.typ.1 = X := ⟨_, rfl⟩
    obtain ⟨Y2, hY2⟩ : ∃ X, textQ q.typ.2.1 = X := ⟨_, rfl⟩
    obtain ⟨D2, hD2⟩ : ∃ X, textQ q.body = X := ⟨_, rfl⟩
    obtain ⟨n3, hn3⟩ : ∃ n3, p.parts.length = n3 := ⟨_, rfl⟩
    obtain ⟨n6, hn6⟩ : ∃ n6, q.parts.length = n6 := ⟨_, rfl⟩
    rw [hX, hY, hX2, hY2] at he2
    rw [hD, hD2] at hbb
    rw [hn3, hn6] at hA
    rw [hn3] at hc3
    rw [hn6] at hc6
    rw [hX, hY, hD, hX2, hY2, hD2, hn3, hn6]
    obtain ⟨b1, hb1⟩ : ∃ b1, decide (p.fields = q.fields) = b1 := ⟨_, rfl⟩
    obtain ⟨b2, hb2⟩ : ∃ b2, decide (p.typ = q.typ) = b2 := ⟨_, rfl⟩
    obtain ⟨b3, hb3⟩ : ∃ b3, decide (p.body = q.body) = b3 := ⟨_, rfl⟩
    obtain ⟨b4, hb4⟩ : ∃ b4, decide (p.parts = q.parts) = b4 := ⟨_, rfl⟩
    rw [hb1] at he1 ⊢
    rw [hb2] at he2 ⊢
    rw [hb3] at hbb ⊢
    have hbn : (D.toList != D2.toList) = !b3 := by unfold bne; rw [hbb]
    rw [hb4]
    obtain ⟨w1, hw1⟩ : ∃ w1, w.alloc (.cells #[.slice a1 n1 q1, .string X, .string Y, .slice a2 n2 q2, .string D, .slice a3 n3 q3] 29) = w1 := ⟨_, rfl⟩
    have c1 : Below w.heap.size w w1 := by rw [← hw1]; exact (Below.refl _ _).alloc (Nat.le_refl _) _
    have p1 : PrtAt w1 w.heap.size (.slice a1 n1 q1) (.string X) (.string Y) (.slice a2 n2 q2) (.string D) (.slice a3 n3 q3) := by rw [← hw1]; exact prt_new w _ _ _ _ _ _
    obtain ⟨w2, hw2⟩ : ∃ w2, w1.alloc (.cells #[.slice a4 n4 q4, .string X2, .string Y2, .slice a5 n5 q5, .string D2, .slice a6 n6 q6] 29) = w2 := ⟨_, rfl⟩
    have c2 : Below w1.heap.size w1 w2 := by rw [← hw2]; exact (Below.refl _ _).alloc (Nat.le_refl _) _
    have p2 : PrtAt w2 w1.heap.size (.slice a4 n4 q4) (.string X2) (.string Y2) (.slice a5 n5 q5) (.string D2) (.slice a6 n6 q6) := by rw [← hw2]; exact prt_new w1 _ _ _ _ _ _
    have c12 : Below w.heap.size w w2 := c1.trans (c2.mono c1.size)
    have K2 : Hid (∀ W, Below w2.heap.size w2 W → PrtAt W w.heap.size (.slice a1 n1 q1) (.string X) (.string Y) (.slice a2 n2 q2) (.string D) (.slice a3 n3 q3) ∧ PrtAt W w1.heap.size (.slice a4 n4 q4) (.string X2) (.string Y2) (.slice a5 n5 q5) (.string D2) (.slice a6 n6 q6) ∧ Below w.heap.size w W) := Lib.hid fun W hW => ⟨(p1.below c2).below hW, p2.below hW, c12.trans (hW.mono c12.size)⟩
    obtain ⟨y0, y1, y2, y3, y4, y5, _⟩ := (p1.below c2).cells
    obtain ⟨u0', u1', u2', u3', u4', u5', _⟩ := p2.cells
    have h1 := he1.out w2 c12
    have C12 := Lib.hid c12
    have HN := Lib.hid (And.intro hn3 (And.intro hn6 hb4))
    clear h h2 hX hY hD hX2 hY2 hD2 hb1 hb2 hb3 hb4 hn3 hn6 c1 p1 c2 p2 c12 he1
    cases b1 with
    | false =>
      go_enter Tryz.func13, Tryz.ntmps13
      go_wp2_with (go_at_call 20; refine h1.mono ?_; rintro e w3 ⟨rfl, hb⟩; have B3 := Lib.hid (C12.out.trans (hb.mono C12.out.size)); clear hb)
      go_ret
      exact ⟨rfl, B3.out⟩
    | true =>
      go_enter Tryz.func13, Tryz.ntmps13
      go_wp2_with (go_at_call 20
                   refine h1.mono ?_
                   rintro e w3 ⟨rfl, hb⟩
                   have K3 := Lib.hid (And.intro hb (K2.out w3 hb))
                   obtain ⟨g0, g1, g2, g3, g4, g5, _⟩ := K3.out.2.1.cells
                   obtain ⟨i0, i1, i2, i3, i4, i5, _⟩ := K3.out.2.2.1.cells
                   have h3 := he2.out w3 K3.out.2.2.2
                   clear hb h1
                   refine HeldW.of ?_)
      unfold HeldW
      clear y0 y1 y2 y3 y4 y5 u0' u1' u2' u3' u4' u5'
      cases b2 with
      | false =>
        go_wp2_with (go_at_call 33; refine h3.mono ?_; rintro e w4 ⟨rfl, hb⟩; have B4 := Lib.hid (K3.out.2.2.2.trans (hb.mono K3.out.2.2.2.size)); clear hb)
        go_ret
        exact ⟨rfl, B4.out⟩
      | true =>
        go_wp2_with (go_at_call 33
                     refine h3.mono ?_
                     rintro e w4 ⟨rfl, hb⟩
                     have K4 := Lib.hid (And.intro (K3.out.1.trans (hb.mono K3.out.1.size)) (K2.out w4 (K3.out.1.trans (hb.mono K3.out.1.size))))
                     obtain ⟨y0, y1, y2, y3, y4, y5, _⟩ := K4.out.2.1.cells
                     obtain ⟨v0, v1, v2, v3, v4, v5, _⟩ := K4.out.2.2.1.cells
                     clear hb h3
                     refine HeldW.of ?_)
        unfold HeldW
        clear g0 g1 g2 g3 g4 g5 i0 i1 i2 i3 i4 i5
        cases b3 with
        | false =>
          go_wp2
          go_ret
          exact ⟨rfl, K4.out.2.2.2⟩
        | true =>
          by_cases hnk : n3 = n6
          · subst hnk
            go_wp2
            go_loopw [5] (fun iv wr => ∃ i : Nat, i ≤ n3 ∧ iv = .int .i64 i ∧ Hid (∀ j (hj : j < p.parts.length) (hj2 : j < q.parts.length), j < i → p.parts[j] = q.parts[j]) ∧ Hid (Below w2.heap.size w2 wr)) (fun iv _ => n3 - (intOf iv).toNat)
            case atStart => exact ⟨0, by omega, rfl, Lib.hid (fun j _ _ h => by omega), Lib.hid K4.out.1⟩
            case round =>
              obtain ⟨i, hi, rfl, hg, hbr⟩ := hrel
              clear y0 y1 y2 y3 y4 y5 v0 v1 v2 v3 v4 v5 K4
              have HW := Lib.hid (K2.out wr hbr.out)
              obtain ⟨y0, y1, y2, y3, y4, y5, _⟩ := HW.out.1.cells
              obtain ⟨v0, v1, v2, v3, v4, v5, _⟩ := HW.out.2.1.cells
              by_cases hlt : i < n3
              · have hil : i < p.parts.length := by rw [HN.out.1]; exact hlt
                have him : i < q.parts.length := by rw [HN.out.2.1]; exact hlt
                obtain ⟨hT1, hT2, hBW⟩ := hA.out wr HW.out.2.2
                obtain ⟨g, off, a7, n7, q7, a8, n8, q8, a9, n9, q9, rfl, hgB, z0, z1, z2, z3, z4, z5, hkid⟩ := hT1.kid i hil
                obtain ⟨g', off', e7, m7, d7, e8, m8, d8, e9, m9, d9, rfl, hgB', x0, x1, x2, x3, x4, x5, hkid'⟩ := hT2.kid i him
                obtain ⟨PX, hPX⟩ : ∃ X, textQ p.parts[i].typ.1 = X := ⟨_, rfl⟩
                obtain ⟨PY, hPY⟩ : ∃ X, textQ p.parts[i].typ.2.1 = X := ⟨_, rfl⟩
                obtain ⟨PD, hPD⟩ : ∃ X, textQ p.parts[i].body = X := ⟨_, rfl⟩
                obtain ⟨QX, hQX⟩ : ∃ X, textQ q.parts[i].typ.1 = X := ⟨_, rfl⟩
                obtain ⟨QY, hQY⟩ : ∃ X, textQ q.parts[i].typ.2.1 = X := ⟨_, rfl⟩
                obtain ⟨QD, hQD⟩ : ∃ X, textQ q.parts[i].body = X := ⟨_, rfl⟩
                rw [hPX] at z1
                rw [hPY] at z2
                rw [hPD] at z4
                rw [hQX] at x1
                rw [hQY] at x2
                rw [hQD] at x4
                have hyes : Hid (p.parts[i] = q.parts[i] → ∀ j (hj : j < p.parts.length) (hj2 : j < q.parts.length), j < i + 1 → p.parts[j] = q.parts[j]) := Lib.hid fun h j hj hj2 h3 => by
                  rcases Nat.lt_or_ge j i with h4 | h4
                  · exact hg.out j hj hj2 h4
                  · obtain rfl : j = i := by omega
                    exact h
                have hno : Hid (p.parts[i] ≠ q.parts[i] → b4 = false) := Lib.hid fun h => by
                  rw [← HN.out.2.2]
                  exact decide_eq_false (fun e => h (by simp only [e]))
                have hS : Hid (∀ W, Below wr.heap.size wr W → (W.cell? ⟨w.heap.size, 5, none⟩ = some (.slice (some ⟨g, off, none⟩) n3 q3)) ∧ (W.cell? ⟨w1.heap.size, 5, none⟩ = some (.slice (some ⟨g', off', none⟩) n3 q6)) ∧ (W.cell? ⟨g, off + i * 6, none⟩ = some (.slice a7 n7 q7)) ∧ (W.cell? ⟨g, off + i * 6 + 1, none⟩ = some (.string PX)) ∧ (W.cell? ⟨g, off + i * 6 + 2, none⟩ = some (.string PY)) ∧ (W.cell? ⟨g, off + i * 6 + 3, none⟩ = some (.slice a8 n8 q8)) ∧ (W.cell? ⟨g, off + i * 6 + 4, none⟩ = some (.string PD)) ∧ (W.cell? ⟨g, off + i * 6 + 5, none⟩ = some (.slice a9 n9 q9)) ∧ (W.cell? ⟨g', off' + i * 6, none⟩ = some (.slice e7 m7 d7)) ∧ (W.cell? ⟨g', off' + i * 6 + 1, none⟩ = some (.string QX)) ∧ (W.cell? ⟨g', off' + i * 6 + 2, none⟩ = some (.string QY)) ∧ (W.cell? ⟨g', off' + i * 6 + 3, none⟩ = some (.slice e8 m8 d8)) ∧ (W.cell? ⟨g', off' + i * 6 + 4, none⟩ = some (.string QD)) ∧ (W.cell? ⟨g', off' + i * 6 + 5, none⟩ = some (.slice e9 m9 d9))) := Lib.hid fun W hW => by
                  have hc : ∀ b j, b < B → W.cell? ⟨b, j, none⟩ = wr.cell? ⟨b, j, none⟩ := fun b j hb => hW.cell (p := ⟨b, j, none⟩) (by show b < wr.heap.size; omega)
                  obtain ⟨_, _, _, _, _, t5, _⟩ := (HW.out.1.below hW).cells
                  obtain ⟨_, _, _, _, _, t6, _⟩ := (HW.out.2.1.below hW).cells
                  exact ⟨t5, t6, (hc _ _ hgB).trans z0, (hc _ _ hgB).trans z1, (hc _ _ hgB).trans z2, (hc _ _ hgB).trans z3, (hc _ _ hgB).trans z4, (hc _ _ hgB).trans z5, (hc _ _ hgB').trans x0, (hc _ _ hgB').trans x1, (hc _ _ hgB').trans x2, (hc _ _ hgB').trans x3, (hc _ _ hgB').trans x4, (hc _ _ hgB').trans x5⟩
                have hcall : Hid (∀ W, Below wr.heap.size wr W → Calls Tryz.prog 13 #[.agg #[.slice a7 n7 q7, .string PX, .string PY, .slice a8 n8 q8, .string PD, .slice a9 n9 q9], .agg #[.slice e7 m7 d7, .string QX, .string QY, .slice e8 m8 d8, .string QD, .slice e9 m9 d9]] W fun e w' => e = .returned (.bool (decide (p.parts[i] = q.parts[i]))) ∧ Below W.heap.size W w') := Lib.hid fun W hW => by
                  have := hrec.out p.parts[i] (List.getElem_mem hil) q.parts[i] _ _ _ _ _ _ W (hkid.below hW hBW) (hkid'.below hW hBW) (Nat.le_trans hBW hW.size)
                  unfold partV at this
                  rw [hPX, hPY, hPD, hQX, hQY, hQD] at this
                  exact this
                obtain ⟨P, hP⟩ : ∃ P, p.parts[i] = P := ⟨_, rfl⟩
                obtain ⟨Q, hQ⟩ : ∃ Q, q.parts[i] = Q := ⟨_, rfl⟩
                rw [hP, hQ] at hcall hyes hno
                have hS0 := Lib.hid (hS.out _ (Below.refl wr.heap.size wr).drew)
                have hSw := Lib.hid (hS.out _ (Below.refl wr.heap.size wr))
                clear hT1 hT2 hkid hkid' hPX hPY hPD hQX hQY hQD hP hQ hgB hgB' hil him hg hBW
                by_cases he : P = Q
                · rw [decide_eq_true he] at hcall
                  have Hy := Lib.hid (hyes.out he)
                  clear hyes hno he
                  go_wp2_with fail
                  go_region_held3 (fun W => (W.cell? ⟨w.heap.size, 5, none⟩ = some (.slice (some ⟨g, off, none⟩) n3 q3)) ∧ (W.cell? ⟨w1.heap.size, 5, none⟩ = some (.slice (some ⟨g', off', none⟩) n3 q6)) ∧ (W.cell? ⟨g, off + i * 6, none⟩ = some (.slice a7 n7 q7)) ∧ (W.cell? ⟨g, off + i * 6 + 1, none⟩ = some (.string PX)) ∧ (W.cell? ⟨g, off + i * 6 + 2, none⟩ = some (.string PY)) ∧ (W.cell? ⟨g, off + i * 6 + 3, none⟩ = some (.slice a8 n8 q8)) ∧ (W.cell? ⟨g, off + i * 6 + 4, none⟩ = some (.string PD)) ∧ (W.cell? ⟨g, off + i * 6 + 5, none⟩ = some (.slice a9 n9 q9)) ∧ (W.cell? ⟨g', off' + i * 6, none⟩ = some (.slice e7 m7 d7)) ∧ (W.cell? ⟨g', off' + i * 6 + 1, none⟩ = some (.string QX)) ∧ (W.cell? ⟨g', off' + i * 6 + 2, none⟩ = some (.string QY)) ∧ (W.cell? ⟨g', off' + i * 6 + 3, none⟩ = some (.slice e8 m8 d8)) ∧ (W.cell? ⟨g', off' + i * 6 + 4, none⟩ = some (.string QD)) ∧ (W.cell? ⟨g', off' + i * 6 + 5, none⟩ = some (.slice e9 m9 d9)))
                    (first | assumption | exact hS0.out | exact hSw.out | exact hSc.out | (trace_state; fail))
                    ((go_at_call 13; (with_reducible refine (hcall.out _ ((Below.refl wr.heap.size wr).drew)).mono ?_); rintro e w7 ⟨rfl, hb⟩; have hb7 := ((Below.refl wr.heap.size wr).drew).trans hb; have hSc := Lib.hid (hS.out _ hb7); have B7 := Lib.hid (hbr.out.trans (hb7.mono hbr.out.size)); clear hb hb7))
                  clear hS hS0 hSw hSc hcall HW z0 z1 z2 z3 z4 z5 x0 x1 x2 x3 x4 x5 y0 y1 y2 y3 y4 y5 v0 v1 v2 v3 v4 v5
                  go_wp2
                  go_roundw
                  case rel => exact ⟨i + 1, by omega, by go_num, Hy, B7⟩
                  case measure => simp [intOf]; omega
                · rw [decide_eq_false he] at hcall
                  have Hf := Lib.hid (hno.out he)
                  clear hyes hno he
                  go_wp2_with fail
                  go_region_held3 (fun W => (W.cell? ⟨w.heap.size, 5, none⟩ = some (.slice (some ⟨g, off, none⟩) n3 q3)) ∧ (W.cell? ⟨w1.heap.size, 5, none⟩ = some (.slice (some ⟨g', off', none⟩) n3 q6)) ∧ (W.cell? ⟨g, off + i * 6, none⟩ = some (.slice a7 n7 q7)) ∧ (W.cell? ⟨g, off + i * 6 + 1, none⟩ = some (.string PX)) ∧ (W.cell? ⟨g, off + i * 6 + 2, none⟩ = some (.string PY)) ∧ (W.cell? ⟨g, off + i * 6 + 3, none⟩ = some (.slice a8 n8 q8)) ∧ (W.cell? ⟨g, off + i * 6 + 4, none⟩ = some (.string PD)) ∧ (W.cell? ⟨g, off + i * 6 + 5, none⟩ = some (.slice a9 n9 q9)) ∧ (W.cell? ⟨g', off' + i * 6, none⟩ = some (.slice e7 m7 d7)) ∧ (W.cell? ⟨g', off' + i * 6 + 1, none⟩ = some (.string QX)) ∧ (W.cell? ⟨g', off' + i * 6 + 2, none⟩ = some (.string QY)) ∧ (W.cell? ⟨g', off' + i * 6 + 3, none⟩ = some (.slice e8 m8 d8)) ∧ (W.cell? ⟨g', off' + i * 6 + 4, none⟩ = some (.string QD)) ∧ (W.cell? ⟨g', off' + i * 6 + 5, none⟩ = some (.slice e9 m9 d9)))
                    (first | assumption | exact hS0.out | exact hSw.out | exact hSc.out | (trace_state; fail))
                    ((go_at_call 13; (with_reducible refine (hcall.out _ ((Below.refl wr.heap.size wr).drew)).mono ?_); rintro e w7 ⟨rfl, hb⟩; have hb7 := ((Below.refl wr.heap.size wr).drew).trans hb; have hSc := Lib.hid (hS.out _ hb7); have B7 := Lib.hid (K2.out _ (hbr.out.trans (hb7.mono hbr.out.size))); clear hb hb7))
                  clear hS hS0 hSw hSc hcall HW z0 z1 z2 z3 z4 z5 x0 x1 x2 x3 x4 x5 y0 y1 y2 y3 y4 y5 v0 v1 v2 v3 v4 v5
                  go_wp2
                  go_ret
                  exact ⟨by rw [Hf.out]; rfl, B7.out.2.2⟩
              · obtain rfl : i = n3 := by omega
                have Hall := Lib.hid (show b4 = true by
                  rw [← HN.out.2.2]
                  exact decide_eq_true (List.ext_getElem (by rw [HN.out.1, HN.out.2.1]) (fun j hj hj2 => hg.out j hj hj2 (by rw [← HN.out.1]; exact hj))))
                clear hg
                go_wp2
                go_ret
                exact ⟨by rw [Hall.out]; rfl, HW.out.2.2⟩
          · have Hf := Lib.hid (show b4 = false by
              rw [← HN.out.2.2]
              exact decide_eq_false (fun e => hnk (by rw [← HN.out.1, ← HN.out.2.1, e])))
            have hne : ((n3 : Int) != (n6 : Int)) = true := by simpa using (fun e : (n3 : Int) = n6 => hnk (by omega))
            clear hnk
            go_wp2
            go_ret
            exact ⟨by rw [Hf.out]; rfl, K4.out.2.2.2⟩
end Go.Proofs.YtidlpdiephlkhaaGreatDoor
