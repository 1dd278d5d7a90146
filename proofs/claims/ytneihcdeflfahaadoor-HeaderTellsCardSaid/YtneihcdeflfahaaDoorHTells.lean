/-
  HeaderTells: the walk.
-/
import Derived.Test.YtneihcdeflfahaaDoorH10D
import Derived.Test.YtneihcdeflfahaaDoorAwake10
import Derived.Test.YtneihcdeflfahaaDoorR10B
import Derived.Test.YtneihcdeflfahaaDoorR10G
import Derived.Deep.RegionHeld3
namespace Go.Proofs.YtneihcdeflfahaaDoor
open Go.RowKit

set_option maxRecDepth 100000 in
set_option maxHeartbeats 8000000 in
theorem htells_walk (v : Value) (l : List FieldH) (s name : ByteArray) (m : Int) (w : World) (hat : FieldsAt w w.heap.size v l) (hsm : SmallF maxLen l) (hm : w.cell? ⟨0, 0, none⟩ = some (.int .i64 m)) (hs : s.size ≤ maxLen) (hn : name.size ≤ maxLen) :
    Calls Tryd.prog 3 #[v, .string s, .string name] w fun e w' => e = .returned (.bool true) ∧ Below w.heap.size w w' := by
  have haw := awake10_any m w hm
  have hfew : Hid (∀ W, Below w.heap.size w W → Calls Tryd.prog 10 #[v] W (FewPost l W)) := Lib.hid fun W hW => few10_any w.heap.size v l W (hat.below hW (Nat.le_refl _)) hW.size hsm
  have Hat : Hid (∀ W, Below w.heap.size w W → FieldsAt W W.heap.size v l) := Lib.hid fun W hW => (hat.below hW (Nat.le_refl _)).up hW.size
  have HM : Hid (∀ W, Below w.heap.size w W → W.cell? ⟨0, 0, none⟩ = some (.int .i64 m)) := Lib.hid fun W hW => bound_abide hm hW
  obtain ⟨ao, cp, rfl, q1, q2, hcell⟩ := hat
  have Hcell := Lib.hid hcell
  obtain ⟨n, hnl⟩ : ∃ n, l.length = n := ⟨_, rfl⟩
  have Hn := Lib.hid hnl
  unfold maxLen at hs hn q2
  rw [hnl] at q1 hfew Hat ⊢
  clear hsm hm hcell hnl
  go_enter Tryd.func3, Tryd.ntmps3
  go_wp2_with fail
  refine haw.mono ?_
  rintro e w1 ⟨rfl, hb1⟩
  clear haw
  go_wp2_with fail
  refine (hfew.out _ hb1).mono ?_
  rintro e w2 ⟨b, rfl, hfb, hw2⟩
  have hb2 := hb1.trans (hw2.mono hb1.size)
  clear hfew hw2 hb1
  cases b with
  | false =>
    go_wp2
    go_ret
    exact ⟨rfl, hb2⟩
  | true =>
    have HF := Lib.hid (hfb rfl)
    clear hfb
    by_cases h8 : 8000 < s.size
    · go_wp2
      go_ret
      exact ⟨rfl, hb2⟩
    by_cases h2 : 200 < name.size
    · go_wp2
      go_ret
      exact ⟨rfl, hb2⟩
    have hsmall : SmallF 100000 l := fun f hf => by have := HF.out.small f hf; omega
    have hsmall2 : SmallF 1000000 l := fun f hf => by have := HF.out.small f hf; omega
    obtain ⟨T, hT⟩ : ∃ T, textQ (printH l).1 = T := ⟨_, rfl⟩
    obtain ⟨E, hE⟩ : ∃ E, (printH l).2 = E := ⟨_, rfl⟩
    obtain ⟨l2, hl2⟩ : ∃ x, (parseH s.data.toList).1.1 = x := ⟨_, rfl⟩
    obtain ⟨Z, hZ⟩ : ∃ x, textQ (parseH s.data.toList).1.2 = x := ⟨_, rfl⟩
    obtain ⟨C, hC⟩ : ∃ x, (parseH s.data.toList).2 = x := ⟨_, rfl⟩
    obtain ⟨V, hV⟩ : ∃ X, textQ ((getH l name.data.toList).getD []) = X := ⟨_, rfl⟩
    obtain ⟨ok, hok⟩ : ∃ b, (getH l name.data.toList).isSome = b := ⟨_, rfl⟩
    have hp1 : Hid (∀ W, Below w.heap.size w W → Calls Tryd.prog 11 #[.slice ao n cp] W fun e w' => e = .returned (.tuple #[.string T, .int .i64 E]) ∧ Below w.heap.size w w') := Lib.hid fun W hW => by
      refine (hprint_any W.heap.size _ l W (Hat.out W hW) (Nat.le_refl _) hsmall).mono ?_
      rintro e w' ⟨rfl, hb⟩
      exact ⟨by rw [← hT, ← hE]; rfl, hW.trans (hb.mono hW.size)⟩
    have hp2 : Hid (∀ W, Below w.heap.size w W → Calls Tryd.prog 12 #[.slice ao n cp] W fun e w' => e = .returned (.tuple #[.string T, .int .i64 E]) ∧ Below w.heap.size w w') := Lib.hid fun W hW => by
      refine (r10print_any W.heap.size _ l W (Hat.out W hW) (Nat.le_refl _) hsmall).mono ?_
      rintro e w' ⟨rfl, hb⟩
      exact ⟨by rw [← hT, ← hE]; rfl, hW.trans (hb.mono hW.size)⟩
    have hq1 : Hid (∀ W, Below w.heap.size w W → Calls Tryd.prog 13 #[.string s] W fun e w' => ∃ v', e = .returned (.tuple #[v', .string Z, .int .i64 C]) ∧ Hid (FieldsAt w' w'.heap.size v' l2) ∧ Below w.heap.size w w') := Lib.hid fun W hW => by
      refine (hparse_any s m W (by omega) (HM.out W hW)).mono ?_
      rintro e w' ⟨v', rfl, hown, hb⟩
      rw [hl2] at hown
      exact ⟨v', by rw [hZ, hC], Lib.hid hown.at, hW.trans (hb.mono hW.size)⟩
    have hq2 : Hid (∀ W, Below w.heap.size w W → Calls Tryd.prog 14 #[.string s] W fun e w' => ∃ v', e = .returned (.tuple #[v', .string Z, .int .i64 C]) ∧ Hid (FieldsAt w' w'.heap.size v' l2) ∧ Below W.heap.size W w' ∧ Below w.heap.size w w') := Lib.hid fun W hW => by
      refine (r10parse_any s W (by omega)).mono ?_
      rintro e w' ⟨v', rfl, hown, hb⟩
      rw [hl2] at hown
      exact ⟨v', by rw [hZ, hC], Lib.hid hown.at, hb, hW.trans (hb.mono hW.size)⟩
    have hg1 : Hid (∀ W, Below w.heap.size w W → Calls Tryd.prog 15 #[.slice ao n cp, .string name] W fun e w' => e = .returned (.tuple #[.string V, .bool ok]) ∧ Below W.heap.size W w' ∧ Below w.heap.size w w') := Lib.hid fun W hW => by
      refine (hget_any W.heap.size _ l name W (Hat.out W hW) (Nat.le_refl _) hsmall2 (by omega)).mono ?_
      rintro e w' ⟨rfl, hb⟩
      exact ⟨by unfold foundH; rw [hV, hok], hb, hW.trans (hb.mono hW.size)⟩
    have hg2 : Hid (∀ W, Below w.heap.size w W → Calls Tryd.prog 16 #[.slice ao n cp, .string name] W fun e w' => e = .returned (.tuple #[.string V, .bool ok]) ∧ Below W.heap.size W w' ∧ Below w.heap.size w w') := Lib.hid fun W hW => by
      refine (r10get_any W.heap.size _ l name W (Hat.out W hW) (Nat.le_refl _) hsmall2 (by omega)).mono ?_
      rintro e w' ⟨rfl, hb⟩
      exact ⟨by unfold foundH; rw [hV, hok], hb, hW.trans (hb.mono hW.size)⟩
    clear hT hE hl2 hZ hC hV hok hsmall hsmall2
    go_wp2_with fail
    refine (hp1.out _ hb2).mono ?_
    rintro e w3 ⟨rfl, hb3⟩
    clear hp1 hb2
    go_wp2_with fail
    refine (hp2.out _ hb3).mono ?_
    rintro e w4 ⟨rfl, hb4⟩
    clear hp2 hb3
    go_wp2_with fail
    refine (hq1.out _ hb4).mono ?_
    rintro e w5 ⟨v1, rfl, hx1, hb5⟩
    clear hq1 hb4
    go_wp2_with fail
    refine (hq2.out _ hb5).mono ?_
    rintro e w6 ⟨v2, rfl, hx2, hc6, hb6⟩
    have hy1 : Hid (FieldsAt w6 w6.heap.size v1 l2) := Lib.hid ((hx1.out.below hc6 (Nat.le_refl _)).up hc6.size)
    clear hq2 hb5 hx1 hc6
    go_wp2_with fail
    refine (hg1.out _ hb6).mono ?_
    rintro e w7 ⟨rfl, hc7, hb7⟩
    have hz1 : Hid (FieldsAt w7 w7.heap.size v1 l2) := Lib.hid ((hy1.out.below hc7 (Nat.le_refl _)).up hc7.size)
    have hz2 : Hid (FieldsAt w7 w7.heap.size v2 l2) := Lib.hid ((hx2.out.below hc7 (Nat.le_refl _)).up hc7.size)
    clear hg1 hb6 hy1 hx2 hc7
    go_wp2_with fail
    refine (hg2.out _ hb7).mono ?_
    rintro e w8 ⟨rfl, hc8, hb8⟩
    have hv1 : Hid (FieldsAt w8 w8.heap.size v1 l2) := Lib.hid ((hz1.out.below hc8 (Nat.le_refl _)).up hc8.size)
    have hv2 : Hid (FieldsAt w8 w8.heap.size v2 l2) := Lib.hid ((hz2.out.below hc8 (Nat.le_refl _)).up hc8.size)
    have hz8 := hb8.size
    clear hg2 hb7 hz1 hz2 hc8
    go_wp2
    go_loopw [21] (fun iv wr => ∃ i : Nat, i ≤ n ∧ iv = .int .i64 i ∧ Below w8.heap.size w8 wr) (fun iv _ => n - (intOf iv).toNat)
    case atStart => exact ⟨0, by omega, rfl, Below.refl _ _⟩
    case round =>
      obtain ⟨i, hi, rfl, hbr⟩ := hrel
      by_cases hlt : i < n
      · have hwr : IntKind.i64.wrap ((i : Int) + 1) = (i : Int) + 1 := by rw [IntWalk.i64_in _ (by omega)]
        have hil : i < l.length := by rw [Hn.out]; exact hlt
        obtain ⟨g, off, rfl, hgB, z0, z1⟩ := Hcell.out i hil
        have hsf := HF.out.small _ (List.getElem_mem hil)
        obtain ⟨f, hf⟩ : ∃ f, l[i] = f := ⟨_, rfl⟩
        rw [hf] at z0 z1 hsf
        obtain ⟨X, hX⟩ : ∃ X, textQ f.1 = X := ⟨_, rfl⟩
        obtain ⟨Y, hY⟩ : ∃ Y, textQ f.2 = Y := ⟨_, rfl⟩
        have hXs : X.size ≤ 1000000 := by
          rw [← hX]
          show f.1.length ≤ _
          omega
        have hXd : X.data.toList = f.1 := by rw [← hX]; rfl
        rw [hX] at z0
        rw [hY] at z1
        have hS : Hid (∀ W, Below w8.heap.size w8 W → W.cell? ⟨g, off + i * 2, none⟩ = some (.string X) ∧ W.cell? ⟨g, off + i * 2 + 1, none⟩ = some (.string Y) ∧ Below w8.heap.size w8 W) := Lib.hid fun W hW => by
          have hWw := hb8.trans (hW.mono hz8)
          exact ⟨(hWw.cell (p := ⟨g, off + i * 2, none⟩) (by show g < w.heap.size; omega)).trans z0, (hWw.cell (p := ⟨g, off + i * 2 + 1, none⟩) (by show g < w.heap.size; omega)).trans z1, hW⟩
        obtain ⟨p, hp⟩ : ∃ p, rightB f = p := ⟨_, rfl⟩
        obtain ⟨q, hq⟩ : ∃ q, sameH f.1 name.data.toList = q := ⟨_, rfl⟩
        have hr1 : Hid (∀ W, (W.cell? ⟨g, off + i * 2, none⟩ = some (.string X) ∧ W.cell? ⟨g, off + i * 2 + 1, none⟩ = some (.string Y) ∧ Below w8.heap.size w8 W) → Calls Tryd.prog 17 #[.agg #[.string X, .string Y]] W fun e w' => e = .returned (.bool p) ∧ (w'.cell? ⟨g, off + i * 2, none⟩ = some (.string X) ∧ w'.cell? ⟨g, off + i * 2 + 1, none⟩ = some (.string Y) ∧ Below w8.heap.size w8 w')) := Lib.hid fun W hW => by
          have := hright_any f W (by omega)
          unfold fieldV at this
          rw [hX, hY, hp] at this
          refine this.mono ?_
          rintro e w' ⟨rfl, hb⟩
          exact ⟨rfl, hS.out _ (hW.2.2.trans (hb.mono hW.2.2.size))⟩
        have hr2 : Hid (∀ W, (W.cell? ⟨g, off + i * 2, none⟩ = some (.string X) ∧ W.cell? ⟨g, off + i * 2 + 1, none⟩ = some (.string Y) ∧ Below w8.heap.size w8 W) → Calls Tryd.prog 18 #[.agg #[.string X, .string Y]] W fun e w' => e = .returned (.bool p) ∧ (w'.cell? ⟨g, off + i * 2, none⟩ = some (.string X) ∧ w'.cell? ⟨g, off + i * 2 + 1, none⟩ = some (.string Y) ∧ Below w8.heap.size w8 w')) := Lib.hid fun W hW => by
          have := r10right_any f W (by omega)
          unfold fieldV at this
          rw [hX, hY, hp] at this
          refine this.mono ?_
          rintro e w' ⟨rfl, hb⟩
          exact ⟨rfl, hS.out _ (hW.2.2.trans (hb.mono hW.2.2.size))⟩
        have hs1 : Hid (∀ W, (W.cell? ⟨g, off + i * 2, none⟩ = some (.string X) ∧ W.cell? ⟨g, off + i * 2 + 1, none⟩ = some (.string Y) ∧ Below w8.heap.size w8 W) → Calls Tryd.prog 19 #[.string X, .string name] W fun e w' => e = .returned (.bool q) ∧ (w'.cell? ⟨g, off + i * 2, none⟩ = some (.string X) ∧ w'.cell? ⟨g, off + i * 2 + 1, none⟩ = some (.string Y) ∧ Below w8.heap.size w8 w')) := Lib.hid fun W hW => by
          have := hsame_any X name W hXs (by omega)
          rw [hXd, hq] at this
          refine this.mono ?_
          rintro e w' ⟨rfl, hb⟩
          exact ⟨rfl, hS.out _ (hW.2.2.trans (hb.mono hW.2.2.size))⟩
        have hs2 : Hid (∀ W, (W.cell? ⟨g, off + i * 2, none⟩ = some (.string X) ∧ W.cell? ⟨g, off + i * 2 + 1, none⟩ = some (.string Y) ∧ Below w8.heap.size w8 W) → Calls Tryd.prog 20 #[.string X, .string name] W fun e w' => e = .returned (.bool q) ∧ (w'.cell? ⟨g, off + i * 2, none⟩ = some (.string X) ∧ w'.cell? ⟨g, off + i * 2 + 1, none⟩ = some (.string Y) ∧ Below w8.heap.size w8 w')) := Lib.hid fun W hW => by
          have := r10same_any X name W hXs (by omega)
          rw [hXd, hq] at this
          refine this.mono ?_
          rintro e w' ⟨rfl, hb⟩
          exact ⟨rfl, hS.out _ (hW.2.2.trans (hb.mono hW.2.2.size))⟩
        have hDr : Hid (∀ W, (W.cell? ⟨g, off + i * 2, none⟩ = some (.string X) ∧ W.cell? ⟨g, off + i * 2 + 1, none⟩ = some (.string Y) ∧ Below w8.heap.size w8 W) → (W.drew.cell? ⟨g, off + i * 2, none⟩ = some (.string X) ∧ W.drew.cell? ⟨g, off + i * 2 + 1, none⟩ = some (.string Y) ∧ Below w8.heap.size w8 W.drew)) := Lib.hid fun W hW => hS.out _ hW.2.2.drew
        have hS0 := Lib.hid (hS.out wr hbr)
        have hS00 := Lib.hid (hS.out _ hbr.drew)
        clear z0 z1 hsf hf hX hY hXs hXd hp hq hil
        go_wp2_with fail
        go_region_held3 (fun W => W.cell? ⟨g, off + i * 2, none⟩ = some (.string X) ∧ W.cell? ⟨g, off + i * 2 + 1, none⟩ = some (.string Y) ∧ Below w8.heap.size w8 W)
          (first | assumption | exact hS0.out | exact hS00.out | exact hDr.out _ (by assumption) | (trace_state; fail))
          (first
            | (go_at_call 17; (with_reducible refine (hr1.out _ ?_).mono ?_); assumption; rintro e w11 ⟨rfl, hS11⟩)
            | (go_at_call 18; (with_reducible refine (hr2.out _ ?_).mono ?_); assumption; rintro e w12 ⟨rfl, hS12⟩)
            | (go_at_call 19; (with_reducible refine (hs1.out _ ?_).mono ?_); assumption; rintro e w13 ⟨rfl, hS13⟩)
            | (go_at_call 20; (with_reducible refine (hs2.out _ ?_).mono ?_); assumption; rintro e w14 ⟨rfl, hS14⟩))
        all_goals
          have hbn := hS14.2.2
          clear hr1 hr2 hs1 hs2 hDr hS0 hS00 hS
          go_wp2
          go_roundw
          case rel => exact ⟨i + 1, by omega, by go_num, hbn⟩
          case measure => simp [intOf]; omega
      · have hfl := r10fields_any wr.heap.size v1 v2 l2 l2 wr ((hv1.out.below hbr (Nat.le_refl _)).up hbr.size) ((hv2.out.below hbr (Nat.le_refl _)).up hbr.size) (Nat.le_refl _)
        rw [decide_eq_true rfl] at hfl
        have hbw := hb8.trans (hbr.mono hz8)
        clear hv1 hv2 hbr
        go_wp2_with fail
        refine hfl.mono ?_
        rintro e w9 ⟨rfl, hw9⟩
        go_wp2
        go_ret
        exact ⟨rfl, hbw.trans (hw9.mono hbw.size)⟩
end Go.Proofs.YtneihcdeflfahaaDoor
