/-
  CtypeLetters: the walk.
-/
import Derived.Test.YtafpifpgfpkckaaDoorAwake12
import Derived.Test.YtafpifpgfpkckaaDoorFew12
import Derived.Test.YtafpifpgfpkckaaDoorCtL
import Derived.Deep.RegionHeld3
namespace Go.Proofs.YtafpifpgfpkckaaDoor
open Go.RowKit

def formL (fl : Int) (p : ParC) : FormC := ⟨[32], [9], turnC fl p.1, 34 :: (slashC p.2 ++ [34]), [32]⟩
def headL (fl : Int) (t : TypeC) (k : Nat) : TextA := [9] ++ (turnC fl t.1 ++ (47 :: (turnC fl t.2.1 ++ (t.2.2.take k).flatMap fun p => (formL fl p).text)))
theorem headl_snoc (fl : Int) (t : TypeC) (k : Nat) (h : k < t.2.2.length) : headL fl t (k + 1) = headL fl t k ++ ([32, 59, 9] ++ turnC fl t.2.2[k].1 ++ [61, 34]) ++ slashC t.2.2[k].2 ++ [34, 32] := by
  unfold headL
  rw [List.take_succ_eq_append_getElem h, List.flatMap_append, List.flatMap_singleton]
  unfold formL FormC.text
  simp
theorem headl_parse (fl : Int) {t : TypeC} (ht : rightC t = true) : parseC (headL fl t t.2.2.length) = some t := by
  have h0 := ht
  unfold rightC at h0
  simp only [Bool.and_eq_true, decide_eq_true_eq] at h0
  obtain ⟨h1, h2, h3, h4⟩ := h0
  have a1 := turn_all fl (tok_all h1).1
  have a2 := turn_all fl (tok_all h2).1
  have hf : ∀ p ∈ t.2.2, GoodC (formL fl p) p := fun p hp => by
    have hk := turn_all fl (tok_all (pars_tok h4 p hp).1).1
    exact ⟨rfl, rfl, rfl, hk.1, hk.2, fun r _ => value_slash p.2 r⟩
  have := parse_forms (f := formL fl) t [9] (turnC fl t.1) (turnC fl t.2.1) [] ht rfl a1.1 a1.2 a2.1 a2.2 hf rfl
  rw [List.append_nil] at this
  unfold headL
  rw [List.take_length]
  exact this
theorem slash_len (v : TextA) : (slashC v).length = 2 * v.length := by
  induction v with
  | nil => rfl
  | cons c v ih =>
    show ([92, c] ++ slashC v).length = _
    rw [List.length_append, ih, List.length_cons]
    simp
    omega
theorem slash_snoc (v : TextA) (k : Nat) (h : k < v.length) : slashC (v.take (k + 1)) = slashC (v.take k) ++ [92, v[k]] := by
  unfold slashC
  rw [List.take_succ_eq_append_getElem h, List.flatMap_append, List.flatMap_singleton]
theorem formsl_len (fl : Int) : ∀ l : List ParC, (∀ p ∈ l, p.1.length ≤ 64 ∧ p.2.length ≤ 70) → (l.flatMap fun p => (formL fl p).text).length ≤ 220 * l.length
  | [], _ => by simp
  | p :: l, h => by
    have h1 := formsl_len fl l (fun q hq => h q (List.mem_cons_of_mem _ hq))
    have h3 := h p (List.mem_cons_self ..)
    have h2 : ((formL fl p).text).length ≤ 220 := by
      unfold formL FormC.text
      simp only [List.length_append, List.length_cons, List.length_nil, turn_len, slash_len]
      omega
    rw [List.flatMap_cons, List.length_append, List.length_cons]
    omega
theorem headl_len (fl : Int) {t : TypeC} (ht : rightC t = true) (k : Nat) : (headL fl t k).length ≤ 2000 := by
  obtain ⟨h1, h2, h3, h4⟩ := right_parts ht
  have := formsl_len fl (t.2.2.take k) (fun p hp => h4 p (List.mem_of_mem_take hp))
  have h5 : (t.2.2.take k).length ≤ 8 := by rw [List.length_take]; omega
  unfold headL
  simp only [List.length_append, List.length_cons, List.length_nil, turn_len]
  omega

set_option maxRecDepth 100000 in
set_option maxHeartbeats 8000000 in
theorem cletters_walk (v : Value) (t : TypeC) (fl : Int) (w : World) (hat : ParsAt w w.heap.size v t.2.2) (hsm : t.1.length ≤ maxLen ∧ t.2.1.length ≤ maxLen ∧ ∀ p ∈ t.2.2, p.1.length ≤ maxLen ∧ p.2.length ≤ maxLen) :
    Calls Tryd.prog 6 #[typeV t v, .int .u64 fl] w fun e w' => e = .returned (.bool true) ∧ Below w.heap.size w w' := by
  have haw := fun W => awake12_any W
  have hmf : ∀ (fn : Fn) (first cap : Array Value) (w : World), (Instr.makeFunc fn first cap).run Tryd.prog w = .ok (.func fn first cap) w := fun _ _ _ _ => rfl
  obtain ⟨ao, cap, rfl, hc1, hc2⟩ := hat.slice
  obtain ⟨l, hl⟩ : ∃ l, t.2.2 = l := ⟨_, rfl⟩
  obtain ⟨X, hX⟩ : ∃ X, textQ t.1 = X := ⟨_, rfl⟩
  obtain ⟨Y, hY⟩ : ∃ Y, textQ t.2.1 = Y := ⟨_, rfl⟩
  obtain ⟨n, hn⟩ : ∃ n, t.2.2.length = n := ⟨_, rfl⟩
  have Hat : Hid (∀ W, Below w.heap.size w W → ParsAt W w.heap.size (.slice ao n cap) t.2.2) := Lib.hid fun W hW => by rw [← hn]; exact hat.below hW (Nat.le_refl _)
  have hfew : Hid (∀ W, Below w.heap.size w W → Calls Tryd.prog 9 #[.agg #[.string X, .string Y, .slice ao n cap]] W (FewPostC t W)) := Lib.hid fun W hW => by
    have := few12_any w.heap.size _ t W (Hat.out W hW) hW.size hsm.1 hsm.2.1 hsm.2.2
    unfold typeV at this
    rw [hX, hY] at this
    exact this
  have hrt : Hid (∀ W, Below w.heap.size w W → Calls Tryd.prog 17 #[.agg #[.string X, .string Y, .slice ao n cap]] W fun e w' => e = .returned (.bool (rightC t)) ∧ Below W.heap.size W w') := Lib.hid fun W hW => by
    have := cright_any w.heap.size _ t W (Hat.out W hW) hW.size
    unfold typeV at this
    rw [hX, hY] at this
    exact this
  have hsm2 : Hid (∀ W bo cb, ParsAt W W.heap.size (.slice bo n cb) t.2.2 → ParsAt W W.heap.size (.slice ao n cap) t.2.2 → Calls Tryd.prog 19 #[.agg #[.string X, .string Y, .slice bo n cb], .agg #[.string X, .string Y, .slice ao n cap]] W fun e w' => e = .returned (.bool true) ∧ Below W.heap.size W w') := Lib.hid fun W bo cb h1 h2 => by
    have := csame_any W.heap.size _ _ t t W h1 h2 (Nat.le_refl _)
    unfold typeV at this
    rw [hX, hY, decide_eq_true rfl] at this
    exact this
  have hps : Hid (rightC t = true → ∀ S : ByteArray, S.data.toList = headL fl t n → ∀ W, Calls Tryd.prog 12 #[.string S] W fun e w' => (∃ bo cb, e = .returned (.tuple #[.agg #[.string X, .string Y, .slice bo n cb], .int .i64 0]) ∧ Hid (ParsAt w' w'.heap.size (.slice bo n cb) t.2.2)) ∧ Below W.heap.size W w') := Lib.hid fun hr S hS W => by
    have hSs : S.size ≤ 2000 := by
      have e : S.size = S.data.toList.length := rfl
      rw [e, hS]
      exact headl_len fl hr n
    refine (cparse_any S W (by omega)).mono ?_
    rintro e w' ⟨u, rfl, ha, hb⟩
    have hpq : parseT S.data.toList = (t, 0) := by
      unfold parseT
      rw [hS, ← hn, headl_parse fl hr]
    rw [hpq] at ha ⊢
    obtain ⟨bo, cb, rfl, _⟩ := ha.slice
    simp only at ha ⊢
    rw [hn] at ha ⊢
    refine ⟨⟨bo, cb, ?_, Lib.hid ha⟩, hb⟩
    unfold typeV
    rw [hX, hY]
  have Hcell : Hid (∀ W, Below w.heap.size w W → ∀ i (hi : i < t.2.2.length), ∃ g off, ao = some ⟨g, off, none⟩ ∧ g < w.heap.size ∧ W.cell? ⟨g, off + i * 2, none⟩ = some (.string (textQ t.2.2[i].1)) ∧ W.cell? ⟨g, off + i * 2 + 1, none⟩ = some (.string (textQ t.2.2[i].2))) := Lib.hid fun W hW i hi => by
    obtain ⟨ao2, cap2, e, _, _, h4⟩ := Hat.out W hW
    cases e
    exact h4 i hi
  have HX := Lib.hid (And.intro hX (And.intro hY hn))
  unfold maxLen at hc2
  rw [hn] at hc1
  unfold typeV
  rw [hX, hY, hn]
  obtain ⟨w0, hw0⟩ : ∃ w0, (w.alloc (.cells #[.string X, .string Y, .slice ao n cap] 24)).alloc (.cells #[.int .u64 fl] 44) = w0 := ⟨_, rfl⟩
  have b0 : Below w.heap.size w w0 := by rw [← hw0]; exact ((Below.refl _ _).alloc (Nat.le_refl _) _).alloc (by simp) _
  have t0 : TypAt w0 w.heap.size X Y ao n cap := by rw [← hw0]; exact (typ_new w _ _ _ _ _).below ((Below.refl _ _).alloc (Nat.le_refl _) _)
  have f0 : Boxed w0 (w.heap.size + 1) 44 (.int .u64 fl) := by
    rw [← hw0]
    have := Boxed.new (w.alloc (.cells #[.string X, .string Y, .slice ao n cap] 24)) 44 (.int .u64 fl)
    rw [World.size_alloc] at this
    exact this
  have K0 : Hid (Below w.heap.size w w0 ∧ TypAt w0 w.heap.size X Y ao n cap ∧ Boxed w0 (w.heap.size + 1) 44 (.int .u64 fl)) := Lib.hid ⟨b0, t0, f0⟩
  obtain ⟨c0, c1, c2, _⟩ := t0.cells
  have step : Hid (∀ W W', (Below w.heap.size w W ∧ TypAt W w.heap.size X Y ao n cap ∧ Boxed W (w.heap.size + 1) 44 (.int .u64 fl)) → Below W.heap.size W W' → (Below w.heap.size w W' ∧ TypAt W' w.heap.size X Y ao n cap ∧ Boxed W' (w.heap.size + 1) 44 (.int .u64 fl))) := Lib.hid fun W W' ⟨h1, h2, h3⟩ hb => ⟨h1.trans (hb.mono h1.size), h2.below hb, boxed_below h3 hb⟩
  clear hat hsm hl hX hY hn b0 t0 f0
  go_enter Tryd.func6, Tryd.ntmps6
  go_wp2_with fail
  refine (haw _).mono ?_
  rintro e w1 ⟨rfl, hb1⟩
  have K1 := Lib.hid (step.out _ _ K0.out hb1)
  obtain ⟨c0, c1, c2, _⟩ := K1.out.2.1.cells
  have h1 := hfew.out w1 K1.out.1
  clear haw hb1 K0 hfew
  go_wp2_with fail
  refine h1.mono ?_
  rintro e w2 ⟨b, rfl, hfb, hb2⟩
  have K2 := Lib.hid (step.out _ _ K1.out hb2)
  obtain ⟨c0, c1, c2, _⟩ := K2.out.2.1.cells
  clear h1 hb2 K1 hfb
  cases b with
  | false =>
    go_wp2
    go_ret
    exact ⟨rfl, K2.out.1⟩
  | true =>
    have h1 := hrt.out w2 K2.out.1
    clear hrt
    cases hr : rightC t with
    | false =>
      rw [hr] at h1
      clear hr
      go_wp2_with fail
      refine h1.mono ?_
      rintro e w3 ⟨rfl, hb⟩
      have K3 := Lib.hid (step.out _ _ K2.out hb)
      clear h1 hb K2
      go_wp2
      go_ret
      exact ⟨rfl, K3.out.1⟩
    | true =>
      rw [hr] at h1
      have hps := Lib.hid (hps.out hr)
      have Hlen := Lib.hid (fun k => headl_len fl hr k)
      have Hpt := Lib.hid (right_parts hr)
      have hXs : X.size ≤ 64 := by rw [← HX.out.1]; exact Hpt.out.1
      have hYs : Y.size ≤ 64 := by rw [← HX.out.2.1]; exact Hpt.out.2.1
      have hn8 : n ≤ 8 := by rw [← HX.out.2.2]; exact Hpt.out.2.2.1
      clear hr
      go_wp2_with fail
      refine h1.mono ?_
      rintro e w3 ⟨rfl, hb⟩
      have K3 := Lib.hid (step.out _ _ K2.out hb)
      obtain ⟨c0, c1, c2, _⟩ := K3.out.2.1.cells
      clear h1 hb K2
      obtain ⟨TX, hTX⟩ : ∃ T, textQ (turnC fl t.1) = T := ⟨_, rfl⟩
      obtain ⟨TY, hTY⟩ : ∃ T, textQ (turnC fl t.2.1) = T := ⟨_, rfl⟩
      have hTXs : TX.size ≤ 64 := by rw [← hTX]; show (turnC fl t.1).length ≤ _; rw [turn_len]; exact Hpt.out.1
      have hTYs : TY.size ≤ 64 := by rw [← hTY]; show (turnC fl t.2.1).length ≤ _; rw [turn_len]; exact Hpt.out.2.1
      obtain ⟨S0, hS0⟩ : ∃ S, (⟨#[9]⟩ : ByteArray) ++ TX ++ (⟨#[47]⟩ : ByteArray) ++ TY = S := ⟨_, rfl⟩
      have hS0d : S0.data.toList = headL fl t 0 := by
        rw [← hS0, ← hTX, ← hTY, ByteArray.data_append, ByteArray.data_append, ByteArray.data_append, Array.toList_append, Array.toList_append, Array.toList_append]
        unfold headL
        simp [textQ]
      have k1 : ¬ 9223372036854775807 < 1 + TX.size := by omega
      have k2 : ¬ 9223372036854775807 < 1 + TX.size + 1 := by omega
      have k3 : ¬ 9223372036854775807 < 1 + TX.size + 1 + TY.size := by omega
      have hS : Hid (∀ W, Below w3.heap.size w3 W → W.cell? ⟨w.heap.size, 0, none⟩ = some (.string X) ∧ W.cell? ⟨w.heap.size, 1, none⟩ = some (.string Y) ∧ Below w3.heap.size w3 W) := Lib.hid fun W hW => by
        have := (step.out _ _ K3.out hW).2.1.cells
        exact ⟨this.1, this.2.1, hW⟩
      have hcx : Hid (∀ W, (W.cell? ⟨w.heap.size, 0, none⟩ = some (.string X) ∧ W.cell? ⟨w.heap.size, 1, none⟩ = some (.string Y) ∧ Below w3.heap.size w3 W) → Calls Tryd.prog 20 #[.string X, .pointer (some ⟨w.heap.size + 1, 0, none⟩)] W fun e w' => e = .returned (.string TX) ∧ (w'.cell? ⟨w.heap.size, 0, none⟩ = some (.string X) ∧ w'.cell? ⟨w.heap.size, 1, none⟩ = some (.string Y) ∧ Below w3.heap.size w3 w')) := Lib.hid fun W hW => by
        have := cturn_any fl (w.heap.size + 1) X W (step.out _ _ K3.out hW.2.2).2.2 (by omega)
        rw [show X.data.toList = t.1 by rw [← HX.out.1]; rfl, hTX] at this
        refine this.mono ?_
        rintro e w' ⟨rfl, hb⟩
        exact ⟨rfl, hS.out _ (hW.2.2.trans (hb.mono hW.2.2.size))⟩
      have hcy : Hid (∀ W, (W.cell? ⟨w.heap.size, 0, none⟩ = some (.string X) ∧ W.cell? ⟨w.heap.size, 1, none⟩ = some (.string Y) ∧ Below w3.heap.size w3 W) → Calls Tryd.prog 20 #[.string Y, .pointer (some ⟨w.heap.size + 1, 0, none⟩)] W fun e w' => e = .returned (.string TY) ∧ (w'.cell? ⟨w.heap.size, 0, none⟩ = some (.string X) ∧ w'.cell? ⟨w.heap.size, 1, none⟩ = some (.string Y) ∧ Below w3.heap.size w3 w')) := Lib.hid fun W hW => by
        have := cturn_any fl (w.heap.size + 1) Y W (step.out _ _ K3.out hW.2.2).2.2 (by omega)
        rw [show Y.data.toList = t.2.1 by rw [← HX.out.2.1]; rfl, hTY] at this
        refine this.mono ?_
        rintro e w' ⟨rfl, hb⟩
        exact ⟨rfl, hS.out _ (hW.2.2.trans (hb.mono hW.2.2.size))⟩
      have hDr : Hid (∀ W, (W.cell? ⟨w.heap.size, 0, none⟩ = some (.string X) ∧ W.cell? ⟨w.heap.size, 1, none⟩ = some (.string Y) ∧ Below w3.heap.size w3 W) → (W.drew.cell? ⟨w.heap.size, 0, none⟩ = some (.string X) ∧ W.drew.cell? ⟨w.heap.size, 1, none⟩ = some (.string Y) ∧ Below w3.heap.size w3 W.drew)) := Lib.hid fun W hW => hS.out _ hW.2.2.drew
      have hS1 := Lib.hid (hS.out _ (Below.refl w3.heap.size w3))
      have hS2 := Lib.hid (hS.out _ (Below.refl w3.heap.size w3).drew)
      have HS0 := Lib.hid hS0d
      have he1 : ∀ args w, (callFunc 20 args).run Tryd.prog w = .ok (.enter 20 args) w := enters_of Tryd.func20 (by kernel_rfl) rfl
      clear hTX hTY hS0d hXs hYs
      go_wp2_with fail
      go_region_held3 (fun W => W.cell? ⟨w.heap.size, 0, none⟩ = some (.string X) ∧ W.cell? ⟨w.heap.size, 1, none⟩ = some (.string Y) ∧ Below w3.heap.size w3 W)
        (first | assumption | exact hS1.out | exact hS2.out | exact hDr.out _ (by assumption) | (trace_state; fail))
        (first
          | (go_at_fn 20; (with_reducible refine (hcx.out _ ?_).mono ?_); (first | assumption | exact hS1.out | exact hS2.out); rintro e w4 ⟨rfl, hS4⟩)
          | (go_at_fn 20; (with_reducible refine (hcy.out _ ?_).mono ?_); (first | assumption | exact hS1.out | exact hS2.out); rintro e w5 ⟨rfl, hS5⟩))
      all_goals
        have K5 := Lib.hid (step.out _ _ K3.out hS5.2.2)
        clear hS hcx hcy hDr hS1 hS2 hS4 hS5 K3 k1 k2 k3 c0 c1 c2
        go_wp2
        go_loopw [6, 7] (fun sv iv wr => ∃ (i : Nat) (S : ByteArray), i ≤ n ∧ iv = .int .i64 i ∧ sv = .string S ∧ Hid (S.data.toList = headL fl t i) ∧ Hid (Below w.heap.size w wr ∧ TypAt wr w.heap.size X Y ao n cap ∧ Boxed wr (w.heap.size + 1) 44 (.int .u64 fl))) (fun _ iv _ => n - (intOf iv).toNat)
        case atStart => exact ⟨0, S0, by omega, rfl, rfl, HS0, K5⟩
        case round =>
          obtain ⟨i, S, hi, rfl, rfl, hSd, hk⟩ := hrel
          clear K5
          obtain ⟨kb, kt, kf⟩ := hk.out
          obtain ⟨c0, c1, c2, _⟩ := kt.cells
          have hSs : S.size ≤ 2000 := by
            have e : S.size = S.data.toList.length := rfl
            rw [e, hSd.out]
            exact Hlen.out i
          by_cases hlt : i < n
          · have hil : i < t.2.2.length := by rw [HX.out.2.2]; exact hlt
            have hcl := Hcell.out wr kb i hil
            obtain ⟨m1, m2⟩ := Hpt.out.2.2.2 _ (List.getElem_mem hil)
            have hsn := headl_snoc fl t i hil
            have Hcl : Hid (∀ W, Below w.heap.size w W → ∃ g off, ao = some ⟨g, off, none⟩ ∧ g < w.heap.size ∧ W.cell? ⟨g, off + i * 2, none⟩ = some (.string (textQ t.2.2[i].1)) ∧ W.cell? ⟨g, off + i * 2 + 1, none⟩ = some (.string (textQ t.2.2[i].2))) := Lib.hid fun W hW => Hcell.out W hW i hil
            obtain ⟨f, hf⟩ : ∃ f, t.2.2[i] = f := ⟨_, rfl⟩
            rw [hf] at hcl m1 m2 hsn Hcl
            obtain ⟨N, hN⟩ : ∃ X, textQ f.1 = X := ⟨_, rfl⟩
            obtain ⟨V, hV⟩ : ∃ X, textQ f.2 = X := ⟨_, rfl⟩
            obtain ⟨TN, hTN⟩ : ∃ X, textQ (turnC fl f.1) = X := ⟨_, rfl⟩
            have hNs : N.size ≤ 64 := by rw [← hN]; exact m1
            have hVs : V.size = f.2.length := by rw [← hV]; rfl
            have hVd : V.data.toList = f.2 := by rw [← hV]; rfl
            have hTNs : TN.size ≤ 64 := by rw [← hTN]; show (turnC fl f.1).length ≤ _; rw [turn_len]; exact m1
            have hV70 : V.size ≤ 70 := by omega
            obtain ⟨S3, hS3⟩ : ∃ X, S ++ (⟨#[32, 59, 9]⟩ : ByteArray) ++ TN ++ (⟨#[61, 34]⟩ : ByteArray) = X := ⟨_, rfl⟩
            have hS3d : S3.data.toList = headL fl t i ++ ([32, 59, 9] ++ turnC fl f.1 ++ [61, 34]) := by
              rw [← hS3, ← hTN, ByteArray.data_append, ByteArray.data_append, ByteArray.data_append, Array.toList_append, Array.toList_append, Array.toList_append, hSd.out]
              simp [textQ]
            have hS3s : S3.size ≤ 2069 := by
              have e : S3.size = S3.data.toList.length := rfl
              have h9 := Hlen.out i
              rw [e, hS3d]
              simp only [List.length_append, List.length_cons, List.length_nil, turn_len]
              omega
            have k1 : ¬ 9223372036854775807 < S.size + 3 := by omega
            have k2 : ¬ 9223372036854775807 < S.size + 3 + TN.size := by omega
            have k3 : ¬ 9223372036854775807 < S.size + 3 + TN.size + 2 := by omega
            have hcall := cturn_any fl (w.heap.size + 1) N wr kf (by omega)
            rw [show N.data.toList = f.1 by rw [← hN]; rfl, hTN] at hcall
            rw [hN, hV] at hcl Hcl
            rw [← hS3d] at hsn
            obtain ⟨g, off, rfl, hgB, y0, y1⟩ := hcl
            have Hsn := Lib.hid hsn
            have HVq := Lib.hid (And.intro hVs hVd)
            have K := Lib.hid (show Below w.heap.size w wr ∧ TypAt wr w.heap.size X Y (some ⟨g, off, none⟩) n cap ∧ Boxed wr (w.heap.size + 1) 44 (.int .u64 fl) from ⟨kb, kt, kf⟩)
            clear hk kb kt kf hN hV hTN hf hsn hS3d hVs hVd m1 m2 hil hSd
            go_wp2_with fail
            refine hcall.mono ?_
            rintro e w6 ⟨rfl, hb⟩
            have K6 := Lib.hid (step.out _ _ K.out hb)
            obtain ⟨c0, c1, c2, _⟩ := K6.out.2.1.cells
            obtain ⟨g2, off2, e2, hg2, y0, y1⟩ := Hcl.out w6 K6.out.1
            cases e2
            clear hcall hb K Hcl
            go_wp2
            go_loopw [6, 8] (fun sv kv wx => ∃ (k : Nat) (S4 : ByteArray), k ≤ V.size ∧ kv = .int .i64 k ∧ sv = .string S4 ∧ Hid (S4.data.toList = S3.data.toList ++ slashC (f.2.take k)) ∧ wx = w6) (fun _ kv _ => V.size - (intOf kv).toNat)
            case atStart => exact ⟨0, S3, by omega, rfl, rfl, Lib.hid (by rw [List.take_zero]; exact (List.append_nil _).symm), (by first | rfl | trivial)⟩
            case round =>
              obtain ⟨k, S4, hk, rfl, rfl, hS4, hwx⟩ := hrel
              obtain rfl := hwx.symm
              clear hwx
              have hS4s : S4.size ≤ 2300 := by
                have e : S4.size = S4.data.toList.length := rfl
                have e3 : S3.data.toList.length = S3.size := rfl
                rw [e, hS4.out, List.length_append, slash_len, List.length_take, e3]
                omega
              by_cases hkl : k < V.size
              · have hkf : k < f.2.length := by have := HVq.out.1; omega
                obtain ⟨C, hC⟩ : ∃ C, V.extract k (k + 1) = C := ⟨_, rfl⟩
                have hCd : C.data.toList = [f.2[k]] := by
                  rw [← hC, cut_text, HVq.out.2]
                  show (f.2.drop k).take (k + 1 - k) = _
                  rw [List.drop_eq_getElem_cons hkf, show k + 1 - k = 1 by omega]
                  rfl
                obtain ⟨S5, hS5⟩ : ∃ X, S4 ++ (⟨#[92]⟩ : ByteArray) ++ C = X := ⟨_, rfl⟩
                have hS5d : S5.data.toList = S3.data.toList ++ slashC (f.2.take (k + 1)) := by
                  rw [← hS5, ByteArray.data_append, ByteArray.data_append, Array.toList_append, Array.toList_append, hS4.out, hCd, slash_snoc _ _ hkf]
                  simp
                have hCs : C.size ≤ 1 := by
                  have e : C.size = C.data.toList.length := rfl
                  rw [e, hCd]
                  exact Nat.le_refl _
                have k4 : ¬ 9223372036854775807 < S4.size + 1 := by omega
                have k5 : ¬ 9223372036854775807 < S4.size + 1 + C.size := by omega
                have hw : IntKind.i64.wrap ((k : Int) + 1) = (k : Int) + 1 := by rw [IntWalk.i64_in _ (by omega)]
                have hle : (k : Int) + 1 ≤ (V.size : Int) := by omega
                have HS5 := Lib.hid hS5d
                clear hCd hS5d hS4 hCs hkf
                go_wp2
                go_roundw
                case rel => exact ⟨k + 1, S5, by omega, by go_num, rfl, HS5, (by first | rfl | trivial)⟩
                case measure => simp [intOf]; omega
              · obtain rfl : k = V.size := by omega
                obtain ⟨S6, hS6⟩ : ∃ X, S4 ++ (⟨#[34, 32]⟩ : ByteArray) = X := ⟨_, rfl⟩
                have hS6d : S6.data.toList = headL fl t (i + 1) := by
                  rw [← hS6, ByteArray.data_append, Array.toList_append, hS4.out, List.take_of_length_le (by have := HVq.out.1; omega), Hsn.out]
                have HS6 := Lib.hid hS6d
                have k6 : ¬ 9223372036854775807 < S4.size + 2 := by omega
                clear hS6d hS4
                go_wp2
                go_roundw
                case rel => exact ⟨i + 1, S6, by omega, by go_num, rfl, HS6, K6⟩
                case measure => simp [intOf]; omega
          · obtain rfl : i = n := by omega
            have h9 := hps.out S hSd.out wr
            have K := Lib.hid (show Below w.heap.size w wr ∧ TypAt wr w.heap.size X Y ao i cap ∧ Boxed wr (w.heap.size + 1) 44 (.int .u64 fl) from ⟨kb, kt, kf⟩)
            clear hk kb kt kf hSd hps
            go_wp2_with fail
            refine h9.mono ?_
            rintro e w7 ⟨⟨bo, cb, rfl, ha⟩, hb⟩
            obtain ⟨w8, hw8⟩ : ∃ W, w7.alloc (.cells #[.string X, .string Y, .slice bo i cb] 24) = W := ⟨_, rfl⟩
            have l8 : Below w7.heap.size w7 w8 := by rw [← hw8]; exact (Below.refl _ _).alloc (Nat.le_refl _) _
            have n8 : TypAt w8 w7.heap.size X Y bo i cb := by rw [← hw8]; exact typ_new w7 _ _ _ _ _
            have K8 := Lib.hid (step.out _ _ (step.out _ _ K.out hb) l8)
            obtain ⟨c0, c1, c2, _⟩ := K8.out.2.1.cells
            obtain ⟨d0, d1, d2, _⟩ := n8.cells
            have h10 := hsm2.out w8 bo cb ((ha.out.below l8 (Nat.le_refl _)).up l8.size) ((Hat.out w8 K8.out.1).up K8.out.1.size)
            clear h9 hb ha l8 n8 K
            go_wp2_with fail
            refine h10.mono ?_
            rintro e w9 ⟨rfl, hb⟩
            have K9 := Lib.hid (step.out _ _ K8.out hb)
            clear h10 hb K8
            go_wp2
            go_ret
            exact ⟨rfl, K9.out.1⟩
end Go.Proofs.YtafpifpgfpkckaaDoor
