/-
  AddrTells: the walk.
-/
import Derived.Test.YtemkikpdmihmpaaDoorAwake11
import Derived.Test.YtemkikpdmihmpaaDoorAdN
import Derived.Test.YtemkikpdmihmpaaDoorFew11
import Derived.Test.YtemkikpdmihmpaaDoorR11G
import Derived.Deep.RegionHeld3
namespace Go.Proofs.YtemkikpdmihmpaaDoor
open Go.RowKit

theorem mail_form (o : Option AddrA) : ∃ (a b c : ByteArray) (k : Int), mailV o = .tuple #[.agg #[.string a, .string b, .string c], .int .i64 k] := by
  cases o with
  | none => exact ⟨_, _, _, _, rfl⟩
  | some a => exact ⟨_, _, _, _, rfl⟩
theorem parse_few (s : TextA) : (parseA s).1.length ≤ 64 := by
  unfold parseA
  split
  · exact Nat.zero_le _
  · split
    · exact Nat.zero_le _
    · split
      · exact Nat.zero_le _
      · rename_i h
        exact Nat.le_of_not_lt h

set_option maxRecDepth 100000 in
set_option maxHeartbeats 8000000 in
theorem atells_walk (v : Value) (l : List AddrA) (s q : ByteArray) (m : Int) (w : World) (hat : AddrsAt w w.heap.size v l) (hsm : SmallA maxLen l) (hm : w.cell? ⟨0, 0, none⟩ = some (.int .i64 m)) (hs : s.size ≤ maxLen) (hq : q.size ≤ maxLen) :
    Calls Tryd.prog 3 #[v, .string s, .string q] w fun e w' => e = .returned (.bool true) ∧ Below w.heap.size w w' := by
  have haw := awake11_any m w hm
  have hfew : Hid (∀ W, Below w.heap.size w W → Calls Tryd.prog 6 #[v] W (FewPostA l W)) := Lib.hid fun W hW => few11_any w.heap.size v l W (hat.below hW (Nat.le_refl _)) hW.size hsm
  have Hat : Hid (∀ W, Below w.heap.size w W → AddrsAt W W.heap.size v l) := Lib.hid fun W hW => (hat.below hW (Nat.le_refl _)).up hW.size
  have HM : Hid (∀ W, Below w.heap.size w W → W.cell? ⟨0, 0, none⟩ = some (.int .i64 m)) := Lib.hid fun W hW => bound_abideA hm hW
  obtain ⟨ao, cp, rfl, q1, q2, hcell⟩ := hat
  have Hcell := Lib.hid hcell
  obtain ⟨n, hnl⟩ : ∃ n, l.length = n := ⟨_, rfl⟩
  have Hn := Lib.hid hnl
  unfold maxLen at hs hq q2
  rw [hnl] at q1 hfew Hat ⊢
  clear hsm hm hcell hnl
  go_enter Tryd.func3, Tryd.ntmps3
  go_wp2_with fail
  refine haw.mono ?_
  rintro e w1 ⟨rfl, hb1⟩
  clear haw
  go_wp2_with fail
  refine (hfew.out _ hb1).mono ?_
  rintro e w2 ⟨b, rfl, hfb, h9⟩
  obtain rfl := h9.symm
  clear hfew h9
  cases b with
  | false =>
    go_wp2
    go_ret
    exact ⟨rfl, hb1⟩
  | true =>
    have HF := Lib.hid (hfb rfl)
    clear hfb
    by_cases h8 : 4000 < s.size
    · go_wp2
      go_ret
      exact ⟨rfl, hb1⟩
    by_cases h2 : 1000 < q.size
    · go_wp2
      go_ret
      exact ⟨rfl, hb1⟩
    have hln : l.length ≤ 80 := HF.out.1
    have hsmall : SmallA 1000000 l := fun f hf => by have := HF.out.2 f hf; omega
    obtain ⟨T, hT⟩ : ∃ T, textQ (printA l).1 = T := ⟨_, rfl⟩
    obtain ⟨E, hE⟩ : ∃ E, (printA l).2 = E := ⟨_, rfl⟩
    obtain ⟨l2, hl2⟩ : ∃ x, (parseA s.data.toList).1 = x := ⟨_, rfl⟩
    obtain ⟨C, hC⟩ : ∃ x, (parseA s.data.toList).2 = x := ⟨_, rfl⟩
    obtain ⟨M0, M1, M2, K, hM⟩ := mail_form (mailA q.data.toList)
    have Hl2 : Hid (l2.length ≤ 100000) := Lib.hid (by rw [← hl2]; exact Nat.le_trans (parse_few _) (by decide))
    have hp1 : Hid (∀ W, Below w.heap.size w W → Calls Tryd.prog 7 #[.slice ao n cp] W fun e w' => e = .returned (.tuple #[.string T, .int .i64 E]) ∧ Below w.heap.size w w') := Lib.hid fun W hW => by
      refine (aprint_any W.heap.size _ l W (Hat.out W hW) (Nat.le_refl _)).mono ?_
      rintro e w' ⟨rfl, hb⟩
      exact ⟨by rw [← hT, ← hE]; rfl, hW.trans (hb.mono hW.size)⟩
    have ho1 : Hid (∀ W, Below w.heap.size w W → Calls Tryd.prog 9 #[.slice ao n cp] W fun e w' => ∃ u, e = .returned u ∧ Hid (AddrsAt w' w'.heap.size u l) ∧ Below w.heap.size w w') := Lib.hid fun W hW => by
      refine (of11_any W.heap.size _ l W (Hat.out W hW) (Nat.le_refl _) (by omega)).mono ?_
      rintro e w' ⟨u, rfl, hown, hb⟩
      exact ⟨u, rfl, Lib.hid hown.at, hW.trans (hb.mono hW.size)⟩
    have hp2 : Hid (∀ W u, Below w.heap.size w W → AddrsAt W W.heap.size u l → Calls Tryd.prog 8 #[u] W fun e w' => e = .returned (.tuple #[.string T, .int .i64 E]) ∧ Below w.heap.size w w') := Lib.hid fun W u hW hu => by
      refine (r11print_any W.heap.size u l W hu (Nat.le_refl _) hsmall (by omega)).mono ?_
      rintro e w' ⟨rfl, hb⟩
      exact ⟨by rw [← hT, ← hE]; rfl, hW.trans (hb.mono hW.size)⟩
    have hq1 : Hid (∀ W, Below w.heap.size w W → Calls Tryd.prog 10 #[.string s] W fun e w' => ∃ v', e = .returned (.tuple #[v', .int .i64 C]) ∧ Hid (AddrsAt w' w'.heap.size v' l2) ∧ Below w.heap.size w w') := Lib.hid fun W hW => by
      refine (aparse_any s W).mono ?_
      rintro e w' ⟨v', rfl, hown, hb⟩
      rw [hl2] at hown
      exact ⟨v', by rw [hC], Lib.hid hown.at, hW.trans (hb.mono hW.size)⟩
    have hq2 : Hid (∀ W, Below w.heap.size w W → Calls Tryd.prog 11 #[.string s] W fun e w' => ∃ v', e = .returned (.tuple #[v', .int .i64 C]) ∧ Hid (AddrsAt w' w'.heap.size v' l2) ∧ Below W.heap.size W w' ∧ Below w.heap.size w w') := Lib.hid fun W hW => by
      refine (r11parse_any s W).mono ?_
      rintro e w' ⟨v', rfl, hown, hb⟩
      rw [parse_same, hl2] at hown
      exact ⟨v', by rw [parse_same, hC], Lib.hid hown.at, hb, hW.trans (hb.mono hW.size)⟩
    have hg1 : Hid (∀ W, Below w.heap.size w W → Calls Tryd.prog 12 #[.string q] W fun e w' => e = .returned (.tuple #[.agg #[.string M0, .string M1, .string M2], .int .i64 K]) ∧ Below W.heap.size W w') := Lib.hid fun W hW => by
      have := amail_any q m W (by omega) (HM.out W hW)
      rw [hM] at this
      exact this
    have hg2 : Hid (∀ W, Calls Tryd.prog 13 #[.string q] W fun e w' => e = .returned (.tuple #[.agg #[.string M0, .string M1, .string M2], .int .i64 K]) ∧ Below W.heap.size W w') := Lib.hid fun W => by
      have := r11mail_any q W (by omega)
      rw [hM] at this
      exact this
    clear hT hE hl2 hC hM hsmall hln
    go_wp2_with fail
    refine (hp1.out _ hb1).mono ?_
    rintro e w3 ⟨rfl, hb3⟩
    clear hp1 hb1
    go_wp2_with fail
    refine (ho1.out _ hb3).mono ?_
    rintro e w3o ⟨u, rfl, hu, hb3o⟩
    clear ho1 hb3
    have hp3 := hp2.out _ u hb3o hu.out
    clear hp2 hu
    go_wp2_with fail
    refine hp3.mono ?_
    rintro e w4 ⟨rfl, hb4⟩
    clear hp3 hb3o
    go_wp2_with fail
    refine (hq1.out _ hb4).mono ?_
    rintro e w5 ⟨v1, rfl, hx1, hb5⟩
    clear hq1 hb4
    go_wp2_with fail
    refine (hq2.out _ hb5).mono ?_
    rintro e w6 ⟨v2, rfl, hx2, hc6, hb6⟩
    have hy1 : Hid (AddrsAt w6 w6.heap.size v1 l2) := Lib.hid ((hx1.out.below hc6 (Nat.le_refl _)).up hc6.size)
    clear hq2 hb5 hx1 hc6
    go_wp2_with fail
    refine (hg1.out _ hb6).mono ?_
    rintro e w7 ⟨rfl, hc7⟩
    obtain ⟨w8, hw8⟩ : ∃ w8, w7.alloc (.cells #[.string M0, .string M1, .string M2] 37) = w8 := ⟨_, rfl⟩
    have l8 : Below w7.heap.size w7 w8 := by rw [← hw8]; exact (Below.refl _ _).alloc (Nat.le_refl _) _
    have n8 : AddrAt w8 w7.heap.size M0 M1 M2 := by rw [← hw8]; exact addr_new w7 _ _ _
    have hc8 := hc7.trans (l8.mono hc7.size)
    have N8 := Lib.hid n8
    have B8 := Lib.hid (And.intro (hb6.trans (hc8.mono hb6.size)) hc8)
    clear hg1 hc7 l8 n8 hc8
    go_wp2_with fail
    refine (hg2.out _).mono ?_
    rintro e w9 ⟨rfl, hc9⟩
    obtain ⟨w10, hw10⟩ : ∃ w10, w9.alloc (.cells #[.string M0, .string M1, .string M2] 40) = w10 := ⟨_, rfl⟩
    have l10 : Below w9.heap.size w9 w10 := by rw [← hw10]; exact (Below.refl _ _).alloc (Nat.le_refl _) _
    have n10 : RAt w10 w9.heap.size M0 M1 M2 := by rw [← hw10]; exact rat_new w9 _ _ _
    have hc10 := hc9.trans (l10.mono hc9.size)
    have hb10 := B8.out.1.trans (hc10.mono B8.out.1.size)
    have hd10 := B8.out.2.trans (hc10.mono B8.out.2.size)
    have hv1 : Hid (AddrsAt w10 w10.heap.size v1 l2) := Lib.hid ((hy1.out.below hd10 (Nat.le_refl _)).up hd10.size)
    have hv2 : Hid (AddrsAt w10 w10.heap.size v2 l2) := Lib.hid ((hx2.out.below hd10 (Nat.le_refl _)).up hd10.size)
    have N10 := Lib.hid (And.intro (N8.out.below hc10) n10)
    have B10 := Lib.hid hb10
    have hz10 := hb10.size
    clear hg2 hc9 l10 n10 hc10 hd10 hy1 hx2 N8 B8 hb10 hb6
    go_wp2
    go_loopw [19] (fun iv wr => ∃ i : Nat, i ≤ n ∧ iv = .int .i64 i ∧ Below w10.heap.size w10 wr) (fun iv _ => n - (intOf iv).toNat)
    case atStart => exact ⟨0, by omega, rfl, Below.refl _ _⟩
    case round =>
      obtain ⟨i, hi, rfl, hbr⟩ := hrel
      by_cases hlt : i < n
      · have hwr : IntKind.i64.wrap ((i : Int) + 1) = (i : Int) + 1 := by rw [IntWalk.i64_in _ (by omega)]
        have hil : i < l.length := by rw [Hn.out]; exact hlt
        obtain ⟨g, off, rfl, hgB, z0, z1, z2⟩ := Hcell.out i hil
        have hsf := HF.out.2 _ (List.getElem_mem hil)
        obtain ⟨f, hf⟩ : ∃ f, l[i] = f := ⟨_, rfl⟩
        rw [hf] at z0 z1 z2 hsf
        obtain ⟨X, hX⟩ : ∃ X, textQ f.1 = X := ⟨_, rfl⟩
        obtain ⟨Y, hY⟩ : ∃ Y, textQ f.2.1 = Y := ⟨_, rfl⟩
        obtain ⟨Z, hZ⟩ : ∃ Z, textQ f.2.2 = Z := ⟨_, rfl⟩
        rw [hX] at z0
        rw [hY] at z1
        rw [hZ] at z2
        have hS : Hid (∀ W, Below w10.heap.size w10 W → W.cell? ⟨g, off + i * 3, none⟩ = some (.string X) ∧ W.cell? ⟨g, off + i * 3 + 1, none⟩ = some (.string Y) ∧ W.cell? ⟨g, off + i * 3 + 2, none⟩ = some (.string Z) ∧ Below w10.heap.size w10 W) := Lib.hid fun W hW => by
          have hWw := B10.out.trans (hW.mono hz10)
          exact ⟨(hWw.cell (p := ⟨g, off + i * 3, none⟩) (by show g < w.heap.size; omega)).trans z0, (hWw.cell (p := ⟨g, off + i * 3 + 1, none⟩) (by show g < w.heap.size; omega)).trans z1, (hWw.cell (p := ⟨g, off + i * 3 + 2, none⟩) (by show g < w.heap.size; omega)).trans z2, hW⟩
        obtain ⟨p, hp⟩ : ∃ p, rightA f = p := ⟨_, rfl⟩
        have hr1 : Hid (∀ W, (W.cell? ⟨g, off + i * 3, none⟩ = some (.string X) ∧ W.cell? ⟨g, off + i * 3 + 1, none⟩ = some (.string Y) ∧ W.cell? ⟨g, off + i * 3 + 2, none⟩ = some (.string Z) ∧ Below w10.heap.size w10 W) → Calls Tryd.prog 14 #[.agg #[.string X, .string Y, .string Z]] W fun e w' => e = .returned (.bool p) ∧ (w'.cell? ⟨g, off + i * 3, none⟩ = some (.string X) ∧ w'.cell? ⟨g, off + i * 3 + 1, none⟩ = some (.string Y) ∧ w'.cell? ⟨g, off + i * 3 + 2, none⟩ = some (.string Z) ∧ Below w10.heap.size w10 w')) := Lib.hid fun W hW => by
          have := aright_any f W
          unfold addrV at this
          rw [hX, hY, hZ, hp] at this
          refine this.mono ?_
          rintro e w' ⟨rfl, hb⟩
          exact ⟨rfl, hS.out _ (hW.2.2.2.trans (hb.mono hW.2.2.2.size))⟩
        have hr2 : Hid (∀ W, (W.cell? ⟨g, off + i * 3, none⟩ = some (.string X) ∧ W.cell? ⟨g, off + i * 3 + 1, none⟩ = some (.string Y) ∧ W.cell? ⟨g, off + i * 3 + 2, none⟩ = some (.string Z) ∧ Below w10.heap.size w10 W) → Calls Tryd.prog 15 #[.agg #[.string X, .string Y, .string Z]] W fun e w' => e = .returned (.bool p) ∧ (w'.cell? ⟨g, off + i * 3, none⟩ = some (.string X) ∧ w'.cell? ⟨g, off + i * 3 + 1, none⟩ = some (.string Y) ∧ w'.cell? ⟨g, off + i * 3 + 2, none⟩ = some (.string Z) ∧ Below w10.heap.size w10 w')) := Lib.hid fun W hW => by
          have := r11right_any f W (by omega) (by omega) (by omega)
          unfold addrV at this
          rw [hX, hY, hZ, hp] at this
          refine this.mono ?_
          rintro e w' ⟨rfl, hb⟩
          exact ⟨rfl, hS.out _ (hW.2.2.2.trans (hb.mono hW.2.2.2.size))⟩
        have hDr : Hid (∀ W, (W.cell? ⟨g, off + i * 3, none⟩ = some (.string X) ∧ W.cell? ⟨g, off + i * 3 + 1, none⟩ = some (.string Y) ∧ W.cell? ⟨g, off + i * 3 + 2, none⟩ = some (.string Z) ∧ Below w10.heap.size w10 W) → (W.drew.cell? ⟨g, off + i * 3, none⟩ = some (.string X) ∧ W.drew.cell? ⟨g, off + i * 3 + 1, none⟩ = some (.string Y) ∧ W.drew.cell? ⟨g, off + i * 3 + 2, none⟩ = some (.string Z) ∧ Below w10.heap.size w10 W.drew)) := Lib.hid fun W hW => hS.out _ hW.2.2.2.drew
        have hS0 := Lib.hid (hS.out wr hbr)
        have hS00 := Lib.hid (hS.out _ hbr.drew)
        clear z0 z1 z2 hsf hf hX hY hZ hp hil
        go_wp2_with fail
        go_region_held3 (fun W => W.cell? ⟨g, off + i * 3, none⟩ = some (.string X) ∧ W.cell? ⟨g, off + i * 3 + 1, none⟩ = some (.string Y) ∧ W.cell? ⟨g, off + i * 3 + 2, none⟩ = some (.string Z) ∧ Below w10.heap.size w10 W)
          (first | assumption | exact hS0.out | exact hS00.out | exact hDr.out _ (by assumption) | (trace_state; fail))
          (first
            | (go_at_call 14; (with_reducible refine (hr1.out _ ?_).mono ?_); assumption; rintro e w11 ⟨rfl, hS11⟩)
            | (go_at_call 15; (with_reducible refine (hr2.out _ ?_).mono ?_); assumption; rintro e w12 ⟨rfl, hS12⟩))
        all_goals
          have hbn := hS12.2.2.2
          clear hr1 hr2 hDr hS0 hS00 hS
          go_wp2
          go_roundw
          case rel => exact ⟨i + 1, by omega, by go_num, hbn⟩
          case measure => simp [intOf]; omega
      · have hof := of11_any wr.heap.size v1 l2 wr ((hv1.out.below hbr (Nat.le_refl _)).up hbr.size) (Nat.le_refl _) Hl2.out
        have hbw := B10.out.trans (hbr.mono hz10)
        have hx2 : Hid (AddrsAt wr wr.heap.size v2 l2) := Lib.hid ((hv2.out.below hbr (Nat.le_refl _)).up hbr.size)
        have NR := Lib.hid (And.intro (N10.out.1.below hbr) (N10.out.2.below hbr))
        clear hv1 hv2 hbr N10
        go_wp2_with fail
        refine hof.mono ?_
        rintro e w13 ⟨u3, rfl, hown3, hw13⟩
        have hsa := same11_any w13.heap.size u3 v2 l2 w13 hown3.at ((hx2.out.below hw13 (Nat.le_refl _)).up hw13.size) (Nat.le_refl _)
        have NS := Lib.hid (And.intro (NR.out.1.below hw13) (NR.out.2.below hw13))
        have hb13 := hbw.trans (hw13.mono hbw.size)
        clear hof hown3 hw13 hx2 NR hbw
        go_wp2_with fail
        refine hsa.mono ?_
        rintro e w14 ⟨rfl, hw14⟩
        obtain ⟨d0, d1, d2, _⟩ := (NS.out.1.below hw14).cells
        obtain ⟨t0, t1, t2, _⟩ := (NS.out.2.below hw14).cells
        have hb14 := hb13.trans (hw14.mono hb13.size)
        clear hsa hw14 NS hb13
        go_wp2
        go_ret
        exact ⟨rfl, hb14⟩
end Go.Proofs.YtemkikpdmihmpaaDoor
