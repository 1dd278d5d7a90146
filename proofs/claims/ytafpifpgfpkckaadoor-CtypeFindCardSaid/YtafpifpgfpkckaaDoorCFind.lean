/-
  CtypeFind: the walk.
-/
import Derived.Test.YtafpifpgfpkckaaDoorAwake12
import Derived.Test.YtafpifpgfpkckaaDoorFew12
namespace Go.Proofs.YtafpifpgfpkckaaDoor
open Go.RowKit

theorem has_take (l : List ParC) (n : TextA) (i : Nat) (h : i < l.length) : hasC (l.take (i + 1)) n = (hasC (l.take i) n || (l[i].1 == n)) := by
  unfold hasC
  rw [List.take_succ_eq_append_getElem h, List.any_append]
  simp
theorem find_first (l : List ParC) (n : TextA) (i : Nat) (h : i < l.length) (h1 : hasC (l.take i) n = false) (h2 : (l[i].1 == n) = true) : findC l n = some l[i] := by
  unfold findC
  have e : l = l.take i ++ (l[i] :: l.drop (i + 1)) := by rw [← List.drop_eq_getElem_cons h, List.take_append_drop]
  have h3 : (l.take i).find? (fun p => p.1 == n) = none := by
    rw [List.find?_eq_none]
    intro q hq e2
    have : hasC (l.take i) n = true := List.any_eq_true.2 ⟨q, hq, e2⟩
    rw [h1] at this
    cases this
  obtain ⟨p, hp⟩ : ∃ p, l[i] = p := ⟨_, rfl⟩
  rw [hp] at h2 e ⊢
  rw [e, List.find?_append, h3, List.find?_cons, h2]
  rfl
theorem has_find (l : List ParC) (n : TextA) : hasC l n = (findC l n).isSome := by
  rcases idx_cases l n with ⟨_, h2, h3⟩ | ⟨i, _, _, h2, h3⟩
  · rw [h2, h3]
    rfl
  · rw [h2, h3]
    rfl
/-- What asking for a parameter comes to, in parts. -/
theorem param_parts (l : List ParC) (n : TextA) : ∃ V, paramV l n = .tuple #[.string V, .bool (findC l n).isSome] ∧ (∀ p, findC l n = some p → V = textQ p.2) ∧ ((findC l n).isSome = false → V = ⟨#[]⟩) := by
  unfold paramV
  cases h : findC l n with
  | none => exact ⟨⟨#[]⟩, rfl, fun p hp => (by cases hp), fun _ => rfl⟩
  | some p => exact ⟨textQ p.2, rfl, fun q hq => (by cases hq; rfl), fun h => (by cases h)⟩

set_option maxRecDepth 100000 in
set_option maxHeartbeats 4000000 in
theorem cfind_walk (v : Value) (t : TypeC) (q : ByteArray) (w : World) (hat : ParsAt w w.heap.size v t.2.2) (hsm : t.1.length ≤ maxLen ∧ t.2.1.length ≤ maxLen ∧ ∀ p ∈ t.2.2, p.1.length ≤ maxLen ∧ p.2.length ≤ maxLen) (hq : q.size ≤ maxLen) :
    Calls Tryd.prog 7 #[typeV t v, .string q] w fun e w' => e = .returned (.bool true) ∧ Below w.heap.size w w' := by
  have haw := fun W => awake12_any W
  obtain ⟨ao, cap, rfl, hc1, hc2⟩ := hat.slice
  obtain ⟨l, hl⟩ : ∃ l, t.2.2 = l := ⟨_, rfl⟩
  obtain ⟨X, hX⟩ : ∃ X, textQ t.1 = X := ⟨_, rfl⟩
  obtain ⟨Y, hY⟩ : ∃ Y, textQ t.2.1 = Y := ⟨_, rfl⟩
  obtain ⟨n, hn⟩ : ∃ n, t.2.2.length = n := ⟨_, rfl⟩
  have Hat : Hid (∀ W, Below w.heap.size w W → ParsAt W w.heap.size (.slice ao n cap) t.2.2) := Lib.hid fun W hW => by rw [← hn]; exact hat.below hW (Nat.le_refl _)
  have hfew : Hid (∀ W, Below w.heap.size w W → Calls Tryd.prog 9 #[.agg #[.string X, .string Y, .slice ao n cap]] W (FewPostC t W)) := Lib.hid fun W hW => by
    have := few12_any w.heap.size _ t W (Hat.out W hW) hW.size hsm.1 hsm.2.1 hsm.2.2
    unfold typeV at this
    rw [hX, hY] at this
    exact this
  have hrt : Hid (∀ W, Below w.heap.size w W → Calls Tryd.prog 17 #[.agg #[.string X, .string Y, .slice ao n cap]] W fun e w' => e = .returned (.bool (rightC t)) ∧ Below W.heap.size W w') := Lib.hid fun W hW => by
    have := cright_any w.heap.size _ t W (Hat.out W hW) hW.size
    unfold typeV at this
    rw [hX, hY] at this
    exact this
  have hpr : Hid (∀ W, Below w.heap.size w W → Calls Tryd.prog 10 #[.agg #[.string X, .string Y, .slice ao n cap]] W fun e w' => e = .returned (printV12 t) ∧ Below W.heap.size W w') := Lib.hid fun W hW => by
    have := cprint_any w.heap.size _ t W (Hat.out W hW) hW.size
    unfold typeV at this
    rw [hX, hY] at this
    exact this
  obtain ⟨V, hV, hV1, hV2⟩ := param_parts l q.data.toList
  have hpa : Hid (FewC t → ∀ W, Below w.heap.size w W → Calls Tryd.prog 14 #[.agg #[.string X, .string Y, .slice ao n cap], .string q] W fun e w' => e = .returned (.tuple #[.string V, .bool (findC l q.data.toList).isSome]) ∧ Below W.heap.size W w') := Lib.hid fun hF W hW => by
    have := cparam_any w.heap.size _ t q.data.toList W (Hat.out W hW) hW.size (fun p hp => by have := (hF.2.1 p hp).2; omega)
    unfold typeV at this
    rw [hX, hY, hl, hV] at this
    exact this
  have Hcell : Hid (∀ W, Below w.heap.size w W → ∀ i (hi : i < l.length), ∃ g off, ao = some ⟨g, off, none⟩ ∧ g < w.heap.size ∧ W.cell? ⟨g, off + i * 2, none⟩ = some (.string (textQ l[i].1)) ∧ W.cell? ⟨g, off + i * 2 + 1, none⟩ = some (.string (textQ l[i].2))) := Lib.hid fun W hW i hi => by
    obtain ⟨ao2, cap2, e, _, _, h4⟩ := Hat.out W hW
    cases e
    subst hl
    exact h4 i hi
  obtain ⟨ok, hok⟩ : ∃ b, (findC l q.data.toList).isSome = b := ⟨_, rfl⟩
  rw [hok] at hpa hV2
  have HV := Lib.hid (And.intro hV1 (And.intro hV2 hok))
  have Hl := Lib.hid (show l.length = n by rw [← hl, hn])
  unfold maxLen at hq hc2
  rw [hn] at hc1
  unfold typeV
  rw [hX, hY, hn]
  obtain ⟨w0, hw0⟩ : ∃ w0, w.alloc (.cells #[.string X, .string Y, .slice ao n cap] 24) = w0 := ⟨_, rfl⟩
  have b0 : Below w.heap.size w w0 := by rw [← hw0]; exact (Below.refl _ _).alloc (Nat.le_refl _) _
  have t0 : TypAt w0 w.heap.size X Y ao n cap := by rw [← hw0]; exact typ_new w _ _ _ _ _
  obtain ⟨c0, c1, c2, _⟩ := t0.cells
  have K0 := Lib.hid (And.intro b0 t0)
  have step : Hid (∀ W W', (Below w.heap.size w W ∧ TypAt W w.heap.size X Y ao n cap) → Below W.heap.size W W' → (Below w.heap.size w W' ∧ TypAt W' w.heap.size X Y ao n cap)) := Lib.hid fun W W' ⟨h1, h2⟩ hb => ⟨h1.trans (hb.mono h1.size), h2.below hb⟩
  clear hat hsm hl hX hY hn hV hV1 hV2 hok b0 t0 Hat
  go_enter Tryd.func7, Tryd.ntmps7
  go_wp2_with fail
  refine (haw _).mono ?_
  rintro e w1 ⟨rfl, hb1⟩
  have K1 := Lib.hid (step.out _ _ K0.out hb1)
  obtain ⟨c0, c1, c2, _⟩ := K1.out.2.cells
  have h1 := hfew.out w1 K1.out.1
  clear haw hb1 K0 hfew
  go_wp2_with fail
  refine h1.mono ?_
  rintro e w2 ⟨b, rfl, hfb, hb2⟩
  have K2 := Lib.hid (step.out _ _ K1.out hb2)
  obtain ⟨c0, c1, c2, _⟩ := K2.out.2.cells
  clear h1 hb2 K1
  cases b with
  | false =>
    go_wp2
    go_ret
    exact ⟨rfl, K2.out.1⟩
  | true =>
    by_cases h2 : 200 < q.size
    · go_wp2
      go_ret
      exact ⟨rfl, K2.out.1⟩
    · have h1 := hpa.out (hfb rfl) w2 K2.out.1
      clear hfb hpa
      go_wp2_with fail
      refine h1.mono ?_
      rintro e w3 ⟨rfl, hb3⟩
      have K3 := Lib.hid (step.out _ _ K2.out hb3)
      obtain ⟨c0, c1, c2, _⟩ := K3.out.2.cells
      clear h1 hb3 K2
      go_wp2
      go_loopw [7, 8] (fun hv iv wr => ∃ (i : Nat) (hb : Bool), i ≤ n ∧ iv = .int .i64 i ∧ hv = .bool hb ∧ Hid (hasC (l.take i) q.data.toList = hb) ∧ wr = w3) (fun _ iv _ => n - (intOf iv).toNat)
      case atStart => exact ⟨0, false, by omega, rfl, rfl, Lib.hid rfl, (by first | rfl | trivial)⟩
      case round =>
        obtain ⟨i, hb, hi, rfl, rfl, hh, hwr⟩ := hrel
        obtain rfl := hwr.symm
        clear hwr
        by_cases hlt : i < n
        · have hil : i < l.length := by rw [Hl.out]; exact hlt
          obtain ⟨g, off, rfl, hgB, z0, z1⟩ := Hcell.out w3 K3.out.1 i hil
          have hsn := has_take l q.data.toList i hil
          have hff := find_first l q.data.toList i hil
          obtain ⟨f, hf⟩ : ∃ f, l[i] = f := ⟨_, rfl⟩
          rw [hf] at z0 z1 hsn hff
          obtain ⟨P, hP⟩ : ∃ X, textQ f.1 = X := ⟨_, rfl⟩
          obtain ⟨Q, hQ⟩ : ∃ X, textQ f.2 = X := ⟨_, rfl⟩
          have heq : (P.toList == q.toList) = (f.1 == q.data.toList) := by
            rw [← hP]
            exact str_eqC f.1 q.data.toList
          rw [hP] at z0
          rw [hQ] at z1
          rw [hh.out] at hsn hff
          have HQ := Lib.hid hQ
          clear hil hf hP hQ
          cases he : (f.1 == q.data.toList) with
          | false =>
            rw [he] at heq hsn
            have Hn := Lib.hid (hsn.trans (Bool.or_false _))
            clear he hsn hff hh
            go_wp2
            go_roundw
            case rel => exact ⟨i + 1, hb, by omega, by go_num, rfl, Hn, (by first | rfl | trivial)⟩
            case measure => simp [intOf]; omega
          | true =>
            rw [he] at heq hsn
            cases hb with
            | true =>
              have Hn := Lib.hid (hsn.trans (Bool.or_true _))
              clear he hsn hff hh
              go_wp2
              go_roundw
              case rel => exact ⟨i + 1, true, by omega, by go_num, rfl, Hn, (by first | rfl | trivial)⟩
              case measure => simp [intOf]; omega
            | false =>
              have Hn := Lib.hid (hsn.trans (Bool.or_true _))
              have hVQ : V = Q := by
                rw [← HQ.out]
                exact HV.out.1 f (hff rfl he)
              subst hVQ
              clear he hsn hff hh
              go_wp2
              go_roundw
              case rel => exact ⟨i + 1, true, by omega, by go_num, rfl, Hn, (by first | rfl | trivial)⟩
              case measure => simp [intOf]; omega
        · obtain rfl : i = n := by omega
          have hbk : hb = ok := by
            rw [← hh.out, List.take_of_length_le (by rw [Hl.out]; exact Nat.le_refl _), has_find]
            exact HV.out.2.2
          subst hbk
          have h1 := hpr.out w3 K3.out.1
          clear hh hpr
          cases hr : rightC t with
          | true =>
            rw [print_good12 hr] at h1
            obtain ⟨T, hT⟩ : ∃ T, textQ (textC t) = T := ⟨_, rfl⟩
            rw [hT] at h1
            rw [hr] at hrt
            clear hr hT
            go_wp2_with fail
            refine h1.mono ?_
            rintro e w4 ⟨rfl, hb4⟩
            have K4 := Lib.hid (step.out _ _ K3.out hb4)
            obtain ⟨c0, c1, c2, _⟩ := K4.out.2.cells
            have h2 := hrt.out w4 K4.out.1
            have h3 := HV.out.2.1
            clear h1 hb4 K3 hrt
            cases hb with
            | true =>
              clear h3
              go_wp2_with fail
              refine h2.mono ?_
              rintro e w5 ⟨rfl, hb5⟩
              have K5 := Lib.hid (step.out _ _ K4.out hb5)
              clear h2 hb5 K4 step
              go_wp2
              go_ret
              exact ⟨rfl, K5.out.1⟩
            | false =>
              obtain rfl := h3 rfl
              clear h3
              go_wp2_with fail
              refine h2.mono ?_
              rintro e w5 ⟨rfl, hb5⟩
              have K5 := Lib.hid (step.out _ _ K4.out hb5)
              clear h2 hb5 K4 step
              go_wp2
              go_ret
              exact ⟨rfl, K5.out.1⟩
          | false =>
            rw [print_bad12 hr] at h1
            rw [hr] at hrt
            clear hr
            go_wp2_with fail
            refine h1.mono ?_
            rintro e w4 ⟨rfl, hb4⟩
            have K4 := Lib.hid (step.out _ _ K3.out hb4)
            obtain ⟨c0, c1, c2, _⟩ := K4.out.2.cells
            have h2 := hrt.out w4 K4.out.1
            have h3 := HV.out.2.1
            clear h1 hb4 K3 hrt
            cases hb with
            | true =>
              clear h3
              go_wp2_with fail
              refine h2.mono ?_
              rintro e w5 ⟨rfl, hb5⟩
              have K5 := Lib.hid (step.out _ _ K4.out hb5)
              clear h2 hb5 K4 step
              go_wp2
              go_ret
              exact ⟨rfl, K5.out.1⟩
            | false =>
              obtain rfl := h3 rfl
              clear h3
              go_wp2_with fail
              refine h2.mono ?_
              rintro e w5 ⟨rfl, hb5⟩
              have K5 := Lib.hid (step.out _ _ K4.out hb5)
              clear h2 hb5 K4 step
              go_wp2
              go_ret
              exact ⟨rfl, K5.out.1⟩
end Go.Proofs.YtafpifpgfpkckaaDoor
