/-
  The document's answer of layer 11: a list that is read.
-/
import Derived.Test.YtemkikpdmihmpaaDoorR11M
import Derived.Test.YtemkikpdmihmpaaDoorR11S
import Derived.Test.YtemkikpdmihmpaaDoorA11R
namespace Go.Proofs.YtemkikpdmihmpaaDoor
open Go.RowKit

/-- Signs that lie in memory, wherever. -/
def SignsAt (w : World) (v : Value) (l : List SignA) : Prop :=
  ∃ ao cap g off, v = .slice ao l.length cap ∧ l.length ≤ cap ∧ cap ≤ maxLen ∧ ∀ i (hi : i < l.length), ao = some ⟨g, off, none⟩ ∧ g < w.heap.size ∧
    w.cell? ⟨g, off + i * 2, none⟩ = some (.int .u8 (l[i].1.toNat : Int)) ∧ w.cell? ⟨g, off + i * 2 + 1, none⟩ = some (.string (textQ l[i].2))
theorem signs_own_at {w : World} {B : Nat} {v : Value} {l : List SignA} (h : SignsOwn w B v l) : SignsAt w v l := by
  obtain ⟨h1, h2⟩ := h
  rcases h2 with ⟨rfl, h0⟩ | ⟨g, cap, cur, rfl, hg, hb, hc, hm, hs, ht⟩
  · have hl : l = [] := List.eq_nil_of_length_eq_zero h0
    subst hl
    exact ⟨none, 0, 0, 0, rfl, Nat.le_refl _, by simp, fun i hi => absurd hi (by simp)⟩
  · refine ⟨_, cap, g, 0, rfl, hc, hm, fun i hi => ⟨rfl, heap_lt hb, ?_⟩⟩
    obtain ⟨c0, c1⟩ := signs_at l i hi
    have hcell : ∀ j u, (signsCells l)[j]? = some u → j < l.length * 2 → w.cell? ⟨g, j, none⟩ = some u := fun j u hj hlt => by
      rw [Lib.cell_of_heap hb j]
      rw [← ht, List.getElem?_take_of_lt hlt] at hj
      rw [← hj]
      simp
    have q0 := hcell _ _ c0 (by omega)
    have q1 := hcell _ _ c1 (by omega)
    rw [show 0 + i * 2 = i * 2 by omega]
    exact ⟨q0, q1⟩
def resR (L : Option (List AddrA)) : List AddrA × Nat := match L with
  | none => ([], 2)
  | some l => if 64 < l.length then ([], 3) else (l, 0)
theorem text_appendG (a b : TextA) : textQ a ++ textQ b = textQ (a ++ b) := by
  apply ByteArray.ext
  rw [ByteArray.data_append]
  simp [textQ]
theorem own_low {t : TypeId} {w : World} {B B' : Nat} {v : Value} {l : List AddrA} (h : AddrsOwn t w B v l) (hB : B' ≤ B) : AddrsOwn t w B' v l :=
  ⟨h.1, h.2.imp id fun ⟨g, cap, cur, h1, h2, h3⟩ => ⟨g, cap, cur, h1, Nat.le_trans hB h2, h3⟩⟩
/-- A mailbox, with the empty text by a name. -/
theorem r11mail_E {q : ByteArray} (hq : q.size ≤ 1000000) (h : mailA q.data.toList = none) {E : ByteArray} (hE : (⟨#[]⟩ : ByteArray) = E) (W : World) :
    Calls Tryd.prog 13 #[.string q] W fun e w' => e = .returned (.tuple #[.agg #[.string E, .string E, .string E], .int .i64 2]) ∧ Below W.heap.size W w' := by
  have := r11mail_any q W hq
  rw [h] at this
  subst hE
  exact this
theorem r11mail_yes {q : ByteArray} (hq : q.size ≤ 1000000) {b : AddrA} (h : mailA q.data.toList = some b) (W : World) :
    Calls Tryd.prog 13 #[.string q] W fun e w' => e = .returned (.tuple #[.agg #[.string (textQ b.1), .string (textQ b.2.1), .string (textQ b.2.2)], .int .i64 0]) ∧ Below W.heap.size W w' := by
  have := r11mail_any q W hq
  rw [h] at this
  exact this

set_option maxRecDepth 100000 in
set_option maxHeartbeats 16000000 in
theorem r11parse_any (s : ByteArray) (w : World) :
    Calls Tryd.prog 11 #[.string s] w fun e w' => ∃ v, e = .returned (.tuple #[v, .int .i64 (parseR s.data.toList).2]) ∧ AddrsOwn 40 w' w.heap.size v (parseR s.data.toList).1 ∧ Below w.heap.size w w' := by
  unfold parseR
  rw [show s.data.toList.length = s.size from rfl]
  by_cases h : 16384 < s.size
  · rw [if_pos h]
    go_enter Tryd.func11, Tryd.ntmps11
    go_wp2
    go_ret2
    exact ⟨_, rfl, World.ownsRow_nil _ _ _ _, Below.refl _ _⟩
  · rw [if_neg h]
    have hc := r11signs_any s w (by omega)
    cases q : sgA s.data.toList with
    | none =>
      rw [q] at hc
      have hc2 : Calls Tryd.prog 23 #[.string s] w fun e w' => ∃ v, e = .returned (.tuple #[v, .bool false]) ∧ Below w.heap.size w w' := hc.mono fun e w' ⟨v, h, _, hb⟩ => ⟨v, h, hb⟩
      clear hc q
      go_enter Tryd.func11, Tryd.ntmps11
      go_wp2_with fail
      refine hc2.mono ?_
      rintro e w1 ⟨v, rfl, hw1⟩
      go_wp2
      go_ret2
      exact ⟨_, rfl, World.ownsRow_nil _ _ _ _, hw1⟩
    | some ts =>
      rw [q] at hc
      have hc2 : Calls Tryd.prog 23 #[.string s] w fun e w' => ∃ v, e = .returned (.tuple #[v, .bool true]) ∧ SignsOwn w' w.heap.size v ts ∧ Below w.heap.size w w' := hc
      have htot : totA ts ≤ 40000 := by
        have h1 : totA ts ≤ 2 * s.data.toList.length := sg_tot _ _ _ q
        have h2 : s.data.toList.length = s.size := rfl
        omega
      show Calls _ _ _ _ fun e w' => ∃ v, e = .returned (.tuple #[v, .int .i64 (resR (listS (ts.length + 1) [] ts)).2]) ∧ AddrsOwn 40 w' w.heap.size v (resR (listS (ts.length + 1) [] ts)).1 ∧ Below w.heap.size w w'
      have g0 := gst_start (ts := ts)
      obtain ⟨L, hL⟩ : ∃ L, listS (ts.length + 1) [] ts = L := ⟨_, rfl⟩
      rw [hL] at g0 ⊢
      obtain ⟨RP, hRP⟩ : ∃ RP, resR L = RP := ⟨_, rfl⟩
      rw [hRP]
      obtain ⟨n, hn⟩ : ∃ n, ts.length = n := ⟨_, rfl⟩
      have hn2 : n ≤ 40000 := by
        have := len_tot ts
        omega
      have HRP := Lib.hid hRP
      have G0 := Lib.hid g0
      have Hn := Lib.hid hn
      have Htot := Lib.hid htot
      clear hc q hL hRP g0 htot
      go_enter Tryd.func11, Tryd.ntmps11
      go_wp2_with fail
      refine hc2.mono ?_
      rintro e w1 ⟨v, rfl, ho, hw1⟩
      obtain ⟨ao, cap, g, off, rfl, hc1, hc3, hat⟩ := signs_own_at ho
      unfold maxLen at hc3
      rw [hn] at hc1 ⊢
      have HY : Hid (∀ W, Below w1.heap.size w1 W → ∀ j (hj : j < ts.length), ao = some ⟨g, off, none⟩ ∧ g < W.heap.size ∧ W.cell? ⟨g, off + j * 2, none⟩ = some (.int .u8 (ts[j].1.toNat : Int)) ∧ W.cell? ⟨g, off + j * 2 + 1, none⟩ = some (.string (textQ ts[j].2))) := Lib.hid fun W hW j hj => by
        obtain ⟨q0, q1, q2, q3⟩ := hat j hj
        exact ⟨q0, Nat.lt_of_lt_of_le q1 hW.size, (hW.cell (p := ⟨g, off + j * 2, none⟩) q1).trans q2, (hW.cell (p := ⟨g, off + j * 2 + 1, none⟩) q1).trans q3⟩
      have Hw1 := Lib.hid hw1
      clear ho hat hc2 hn hw1
      go_wp2
      go_loopw [6, 7] (fun ov iv wr => ∃ (i : Nat) (acc : List AddrA), i ≤ n ∧ iv = .int .i64 i ∧ AddrsOwn 40 wr w1.heap.size ov acc ∧ Hid (GSt ts L i acc) ∧ Below w1.heap.size w1 wr) (fun _ iv _ => n - (intOf iv).toNat)
      case atStart => exact ⟨0, [], by omega, rfl, World.ownsRow_nil _ _ _ _, G0, Below.refl _ _⟩
      case round =>
        obtain ⟨i, acc, hi, rfl, hown, hst, hbr⟩ := hrel
        obtain ⟨ka, hka⟩ : ∃ ka, acc.length = ka := ⟨_, rfl⟩
        have hka2 : ka ≤ 40000 := by
          have := hst.out.1
          omega
        obtain ⟨ao2, cap2, rfl⟩ := row_slice hown
        have Hown := Lib.hid hown
        have Hka := Lib.hid hka
        rw [hka]
        clear hown hka G0
        obtain ⟨wa, hwa⟩ : ∃ wa, wr.alloc (.cells #[.string ⟨#[]⟩, .string ⟨#[]⟩, .string ⟨#[]⟩] 40) = wa := ⟨_, rfl⟩
        have hba : Below wr.heap.size wr wa := by rw [← hwa]; exact (Below.refl _ _).alloc (Nat.le_refl _) _
        have hra : RAt wa wr.heap.size ⟨#[]⟩ ⟨#[]⟩ ⟨#[]⟩ := by rw [← hwa]; exact rat_new wr _ _ _
        have Hbr := Lib.hid hbr
        have Hba := Lib.hid hba
        have Hra := Lib.hid hra
        have hB1 := hbr.trans (hba.mono hbr.size)
        have Hya := Lib.hid (HY.out wa hB1)
        clear hba hra hbr hB1
        have w0 : Hid (WSt ts i i [] ∧ textQ [] = (⟨#[]⟩ : ByteArray)) := Lib.hid ⟨wst_start (by rw [Hn.out]; exact hi), rfl⟩
        go_wp2
        go_loop [7, 8, 9] (fun jv nv kv => ∃ (j k : Nat) (nm : TextA) (X : ByteArray), i ≤ j ∧ j ≤ n ∧ jv = .int .i64 j ∧ nv = .string X ∧ kv = .int .i64 k ∧ j ≤ i + k ∧ i + k ≤ j ∧ Hid (WSt ts i j nm ∧ textQ nm = X) ∧ X.size ≤ 40000) (fun jv _ _ => n - (intOf jv).toNat)
        case atStart => exact ⟨i, 0, [], ⟨#[]⟩, Nat.le_refl _, hi, rfl, rfl, rfl, by omega, by omega, w0, by decide⟩
        case round =>
          obtain ⟨j, k, nm, X, hij, hjn, rfl, rfl, rfl, hjk, hkj, hws, hXs⟩ := hrel
          clear w0
          by_cases hjl : j < n
          · have hjt : j < ts.length := by rw [Hn.out]; exact hjl
            obtain ⟨rfl, hgl, z0, z1⟩ := Hya.out j hjt
            obtain ⟨t, ht⟩ : ∃ t, ts[j] = t := ⟨_, rfl⟩
            rw [ht] at z0 z1
            obtain ⟨c, hc⟩ : ∃ c, t.1 = c := ⟨_, rfl⟩
            obtain ⟨T, hT⟩ : ∃ T, textQ t.2 = T := ⟨_, rfl⟩
            rw [hc] at z0
            rw [hT] at z1
            have hTs : T.size + 1 ≤ 40000 := by
              have h1 := tot_drop ts j hjt
              have h2 := tot_le ts j
              have h3 := Htot.out
              have h4 : T.size = t.2.length := by rw [← hT]; rfl
              rw [ht] at h1
              omega
            have hyes : Hid (isWordA t = true → WSt ts i (j + 1) ((if 0 < k then nm ++ [32] else nm) ++ t.2)) := Lib.hid fun hw => by
              have := wst_word hws.out.1 hjt (by rw [ht]; exact hw)
              rw [ht, show j - i = k by omega] at this
              exact this
            have hXT : Hid (isWordA t = true → X.size + 1 + T.size ≤ 40000) := Lib.hid fun hw => by
              obtain ⟨h1, h2, h3, h4⟩ := hws.out.1
              have h5 := tot_drop ts j hjt
              have h6 := Htot.out
              have h7 : T.size = t.2.length := by rw [← hT]; rfl
              have h8 : X.size = nm.length := by rw [← hws.out.2]; rfl
              rw [ht] at h5
              omega
            have hatm := fun W => r11atom_any T W (by omega)
            rw [show T.data.toList = t.2 by rw [← hT]; rfl] at hatm
            have Ht := Lib.hid ht
            have HT := Lib.hid hT
            have Hc := Lib.hid hc
            clear ht hT hc
            by_cases h113 : c = 113
            · have g1 : ((c.toNat : Int) == 113) = true := nat_eq h113
              have hw : isWordA t = true := by unfold isWordA; rw [Hc.out, h113]; rfl
              clear hatm h113
              have f0 : X.size + 1 + T.size ≤ 40000 := hXT.out hw
              have Hn2 := Lib.hid (hyes.out hw)
              clear hyes hXT hw Ht Hc
              by_cases hk0 : 0 < k
              · obtain ⟨X2, hX2⟩ : ∃ X2, X ++ (⟨#[32]⟩ : ByteArray) ++ T = X2 := ⟨_, rfl⟩
                have HN : Hid (WSt ts i (j + 1) (nm ++ [32] ++ t.2) ∧ textQ (nm ++ [32] ++ t.2) = X2) := Lib.hid ⟨by have := Hn2.out; rw [if_pos hk0] at this; exact this, by rw [← hX2, ← HT.out, ← hws.out.2, show (⟨#[32]⟩ : ByteArray) = textQ [32] from rfl, text_appendG, text_appendG]⟩
                have hX2s : X2.size ≤ 40000 := by
                  have e := congrArg ByteArray.size hX2
                  rw [ByteArray.size_append, ByteArray.size_append] at e
                  have e1 : (⟨#[32]⟩ : ByteArray).size = 1 := rfl
                  omega
                have kf1 : ¬ 9223372036854775807 < X.size + 1 := by omega
                have kf2 : ¬ 9223372036854775807 < X.size + 1 + T.size := by omega
                clear Hn2 HT hws
                go_wp2
                go_round
                case rel => exact ⟨j + 1, k + 1, _, X2, by omega, by omega, by go_num, by first | rfl | rw [hX2], by go_num, by omega, by omega, HN, hX2s⟩
                case measure => simp [intOf]; omega
              · obtain ⟨X2, hX2⟩ : ∃ X2, X ++ T = X2 := ⟨_, rfl⟩
                have HN : Hid (WSt ts i (j + 1) (nm ++ t.2) ∧ textQ (nm ++ t.2) = X2) := Lib.hid ⟨by have := Hn2.out; rw [if_neg hk0] at this; exact this, by rw [← hX2, ← HT.out, ← hws.out.2, text_appendG]⟩
                have hX2s : X2.size ≤ 40000 := by
                  have e := congrArg ByteArray.size hX2
                  rw [ByteArray.size_append] at e
                  omega
                have kf1 : ¬ 9223372036854775807 < X.size + T.size := by omega
                clear Hn2 HT hws
                go_wp2
                go_round
                case rel => exact ⟨j + 1, k + 1, _, X2, by omega, by omega, by go_num, by first | rfl | rw [hX2], by go_num, by omega, by omega, HN, hX2s⟩
                case measure => simp [intOf]; omega
            have g1 : ((c.toNat : Int) == 113) = false := nat_ne h113
            by_cases h114 : c = 114
            · have g2 : ((c.toNat : Int) == 114) = true := nat_eq h114
              cases hp : pieceA atomC t.2 with
              | true =>
                have hw : isWordA t = true := by unfold isWordA; rw [Hc.out, h114, hp]; rfl
                rw [hp] at hatm
                clear hp h113 h114
                have f0 : X.size + 1 + T.size ≤ 40000 := hXT.out hw
                have Hn2 := Lib.hid (hyes.out hw)
                clear hyes hXT hw Ht Hc
                by_cases hk0 : 0 < k
                · obtain ⟨X2, hX2⟩ : ∃ X2, X ++ (⟨#[32]⟩ : ByteArray) ++ T = X2 := ⟨_, rfl⟩
                  have HN : Hid (WSt ts i (j + 1) (nm ++ [32] ++ t.2) ∧ textQ (nm ++ [32] ++ t.2) = X2) := Lib.hid ⟨by have := Hn2.out; rw [if_pos hk0] at this; exact this, by rw [← hX2, ← HT.out, ← hws.out.2, show (⟨#[32]⟩ : ByteArray) = textQ [32] from rfl, text_appendG, text_appendG]⟩
                  have hX2s : X2.size ≤ 40000 := by
                    have e := congrArg ByteArray.size hX2
                    rw [ByteArray.size_append, ByteArray.size_append] at e
                    have e1 : (⟨#[32]⟩ : ByteArray).size = 1 := rfl
                    omega
                  have kf1 : ¬ 9223372036854775807 < X.size + 1 := by omega
                  have kf2 : ¬ 9223372036854775807 < X.size + 1 + T.size := by omega
                  clear Hn2 HT hws
                  go_wp2_with (go_at_call 24; refine (hatm _).mono ?_; rintro e w2 ⟨rfl, h9⟩; obtain rfl := h9.symm)
                  go_round
                  case rel => exact ⟨j + 1, k + 1, _, X2, by omega, by omega, by go_num, by first | rfl | rw [hX2], by go_num, by omega, by omega, HN, hX2s⟩
                  case measure => simp [intOf]; omega
                · obtain ⟨X2, hX2⟩ : ∃ X2, X ++ T = X2 := ⟨_, rfl⟩
                  have HN : Hid (WSt ts i (j + 1) (nm ++ t.2) ∧ textQ (nm ++ t.2) = X2) := Lib.hid ⟨by have := Hn2.out; rw [if_neg hk0] at this; exact this, by rw [← hX2, ← HT.out, ← hws.out.2, text_appendG]⟩
                  have hX2s : X2.size ≤ 40000 := by
                    have e := congrArg ByteArray.size hX2
                    rw [ByteArray.size_append] at e
                    omega
                  have kf1 : ¬ 9223372036854775807 < X.size + T.size := by omega
                  clear Hn2 HT hws
                  go_wp2_with (go_at_call 24; refine (hatm _).mono ?_; rintro e w2 ⟨rfl, h9⟩; obtain rfl := h9.symm)
                  go_round
                  case rel => exact ⟨j + 1, k + 1, _, X2, by omega, by omega, by go_num, by first | rfl | rw [hX2], by go_num, by omega, by omega, HN, hX2s⟩
                  case measure => simp [intOf]; omega
              | false =>
                have hw : isWordA t = false := by unfold isWordA; rw [Hc.out, h114, hp]; rfl
                rw [hp] at hatm
                have HA := Lib.hid (wst_stop hws.out.1 (fun hj => by rw [Ht.out]; exact hw))
                clear hp h113 hyes hXT hw
                by_cases hk0 : k = 0
                · subst hk0
                  have hji : j - i = 0 := by omega
                  have HA3 := Lib.hid (by rw [HA.out, hji, aw_mail hjt (by rw [Ht.out, Hc.out, h114]), Ht.out] : addrS (ts.drop i) = (mailA t.2).map (fun a => (a, ts.drop (j + 1))))
                  have hTd : T.data.toList = t.2 := by rw [← HT.out]; rfl
                  have g3 : ((c.toNat : Int) != 114) = false := nat_beq h114
                  have hTs2 : T.size ≤ 1000000 := by omega
                  clear h114 hji HA Ht Hc HT hws
                  cases hm : mailA t.2 with
                  | none =>
                    obtain ⟨E, hE⟩ : ∃ E, (⟨#[]⟩ : ByteArray) = E := ⟨_, rfl⟩
                    have hmb := fun W => r11mail_E hTs2 (by rw [hTd]; exact hm) hE W
                    obtain rfl : RP = ([], 2) := by rw [← HRP.out, gst_none hst.out (by rw [HA3.out, hm]; rfl)]; rfl
                    clear hTd hm HA3 hst hE
                    go_wp2_with fail
                    refine (hatm _).mono ?_
                    rintro e w2 ⟨rfl, h9⟩
                    obtain rfl := h9.symm
                    clear h9 hatm
                    go_wp2_with fail
                    refine (hmb _).mono ?_
                    rintro e w2 ⟨rfl, hw2⟩
                    have hb2 := Hba.out.trans (hw2.mono Hba.out.size)
                    have hb3 := Hbr.out.trans ((hb2.alloc (by exact hb2.size) (.cells #[.string E, .string E, .string E] 40)).mono Hbr.out.size)
                    clear hmb hw2 hb2
                    go_wp2
                    go_ret2
                    exact ⟨_, rfl, World.ownsRow_nil _ _ _ _, Hw1.out.trans (hb3.mono Hw1.out.size)⟩
                  | some a =>
                    obtain ⟨XA, hXA⟩ : ∃ X, textQ a.1 = X := ⟨_, rfl⟩
                    obtain ⟨YA, hYA⟩ : ∃ X, textQ a.2.1 = X := ⟨_, rfl⟩
                    obtain ⟨ZA, hZA⟩ : ∃ X, textQ a.2.2 = X := ⟨_, rfl⟩
                    have hmb := fun W => r11mail_yes hTs2 (by rw [hTd]; exact hm) W
                    rw [hXA, hYA, hZA] at hmb
                    have HXA := Lib.hid (And.intro hXA (And.intro hYA hZA))
                    have HA2 : Hid (addrS (ts.drop i) = some (a, ts.drop (j + 1))) := Lib.hid (by rw [HA3.out, hm]; rfl)
                    clear hTd hm HA3 hXA hYA hZA
                    go_wp2_with fail
                    refine (hatm _).mono ?_
                    rintro e w2 ⟨rfl, h9⟩
                    obtain rfl := h9.symm
                    clear h9 hatm
                    go_wp2_with fail
                    refine (hmb _).mono ?_
                    rintro e w2 ⟨rfl, hw2⟩
                    obtain ⟨w3, hw3⟩ : ∃ w3, w2.alloc (.cells #[.string XA, .string YA, .string ZA] 40) = w3 := ⟨_, rfl⟩
                    have l3 : Below w2.heap.size w2 w3 := by rw [← hw3]; exact (Below.refl _ _).alloc (Nat.le_refl _) _
                    have hrb : RAt w3 w2.heap.size XA YA ZA := by rw [← hw3]; exact rat_new w2 _ _ _
                    have hrt := (Hra.out.below hw2).below l3
                    have hB := Hba.out.trans ((hw2.trans (l3.mono hw2.size)).mono Hba.out.size)
                    obtain ⟨x0, x1, x2, _⟩ := hrb.cells
                    obtain ⟨q0, q1, q2, q3, q4, q5⟩ := hrt.cells
                    clear hmb hw2 l3 hrb
                    obtain ⟨p0, p1, p2, _⟩ := (hrt.put XA YA ZA).cells
                    have hbp := below_put hB (Nat.le_refl _) XA YA ZA
                    obtain ⟨w5, hw5⟩ : ∃ w5, (((w3.setCell ⟨wr.heap.size, 0, none⟩ (.string XA)).setCell ⟨wr.heap.size, 1, none⟩ (.string YA)).setCell ⟨wr.heap.size, 2, none⟩ (.string ZA)).alloc (.cells #[.string XA, .string YA, .string ZA] 40) = w5 := ⟨_, rfl⟩
                    have h5n : RAt w5 (((w3.setCell ⟨wr.heap.size, 0, none⟩ (.string XA)).setCell ⟨wr.heap.size, 1, none⟩ (.string YA)).setCell ⟨wr.heap.size, 2, none⟩ (.string ZA)).heap.size XA YA ZA := by rw [← hw5]; exact rat_new _ _ _ _
                    have hb5 : Below wr.heap.size wr w5 := by rw [← hw5]; exact hbp.alloc (by exact hbp.size) _
                    have Hoa : Hid (AddrsOwn 40 w5 w1.heap.size (.slice ao2 ka cap2) acc) := Lib.hid (by rw [← Hka.out]; exact ownsRow_belowA Hown.out hb5)
                    have Hb5 := Lib.hid (Hbr.out.trans (hb5.mono Hbr.out.size))
                    have hcc : w5.cell? ⟨(((w3.setCell ⟨wr.heap.size, 0, none⟩ (.string XA)).setCell ⟨wr.heap.size, 1, none⟩ (.string YA)).setCell ⟨wr.heap.size, 2, none⟩ (.string ZA)).heap.size, 0, none⟩ = some (.string (textQ a.1)) ∧ w5.cell? ⟨(((w3.setCell ⟨wr.heap.size, 0, none⟩ (.string XA)).setCell ⟨wr.heap.size, 1, none⟩ (.string YA)).setCell ⟨wr.heap.size, 2, none⟩ (.string ZA)).heap.size, 1, none⟩ = some (.string (textQ a.2.1)) ∧ w5.cell? ⟨(((w3.setCell ⟨wr.heap.size, 0, none⟩ (.string XA)).setCell ⟨wr.heap.size, 1, none⟩ (.string YA)).setCell ⟨wr.heap.size, 2, none⟩ (.string ZA)).heap.size, 2, none⟩ = some (.string (textQ a.2.2)) := by
                      rw [HXA.out.1, HXA.out.2.1, HXA.out.2.2]
                      exact ⟨h5n.cells.1, h5n.cells.2.1, h5n.cells.2.2.1⟩
                    have Hcc := Lib.hid hcc
                    clear hbp h5n hb5 hcc hB hrt
                    go_wp2_with (at_builtin; refine append_addrA 40 30 infoRAddr Tryd.underlying30 rfl _ _ rfl w1.heap.size (.slice ao2 ka cap2) acc a rfl Hoa.out Hb5.out.size (by rw [Hka.out]; omega) _ 1 rfl (by first | exact Hcc.out.1 | simpa using Hcc.out.1) (by first | exact Hcc.out.2.1 | simpa using Hcc.out.2.1) (by first | exact Hcc.out.2.2 | simpa using Hcc.out.2.2) ?_)
                    intro v' w6 hown6 hgrow
                    have b6 : Below w1.heap.size w1 w6 := Hb5.out.grown hgrow Hb5.out.size (fun q hq => (Hoa.out.lt q hq).1)
                    have e9 : (acc ++ [a]).length = ka + 1 := by rw [List.length_append, Hka.out]; rfl
                    have o6 : w6.ownsRow w1.heap.size 40 3 v' (ka + 1) (addrsCells (acc ++ [a])) := by rw [← e9]; exact hown6
                    obtain ⟨ao6, cap6, rfl⟩ := row_slice o6
                    have O6 : Hid (AddrsOwn 40 w6 w1.heap.size (.slice ao6 (ka + 1) cap6) (acc ++ [a])) := Lib.hid hown6
                    have B6 := Lib.hid b6
                    clear hown6 hgrow o6 e9 Hoa Hb5 Hcc p0 p1 p2
                    by_cases hJn : j + 1 < n
                    · have hJt : j + 1 < ts.length := by rw [Hn.out]; exact hJn
                      obtain ⟨_, hg6, y0, y1⟩ := HY.out w6 b6 (j + 1) hJt
                      obtain ⟨d, hd⟩ : ∃ d, ts[j + 1].1 = d := ⟨_, rfl⟩
                      rw [hd] at y0
                      have f1 : ((j : Int) + 1 == (n : Int)) = false := by rw [beq_eq_false_iff_ne]; omega
                      clear b6 y1
                      by_cases h44 : d = 44
                      · have f2 : ((d.toNat : Int) != 44) = false := nat_beq h44
                        have Hn2 := Lib.hid (gst_next hst.out (by omega) HA2.out hJt (by rw [hd]; exact h44))
                        clear hd h44 hst HA2 HXA hJt
                        go_wp2
                        go_roundw
                        case rel => exact ⟨j + 1 + 1, acc ++ [a], by omega, by go_num, O6.out, Hn2, B6.out⟩
                        case measure => simp [intOf]; omega
                      · have f2 : ((d.toNat : Int) != 44) = true := nat_bne h44
                        obtain rfl : RP = ([], 2) := by rw [← HRP.out, gst_sep hst.out HA2.out hJt (by rw [hd]; exact h44)]; rfl
                        clear hd h44 hst HA2 HXA hJt
                        go_wp2
                        go_ret2
                        exact ⟨_, rfl, World.ownsRow_nil _ _ _ _, Hw1.out.trans (B6.out.mono Hw1.out.size)⟩
                    · have f1 : ((j : Int) + 1 == (n : Int)) = true := by rw [beq_iff_eq]; omega
                      have hLs := gst_end hst.out HA2.out (by rw [Hn.out]; exact hJn)
                      by_cases h64 : 64 < ka + 1
                      · obtain rfl : RP = ([], 3) := by rw [← HRP.out, hLs]; exact if_pos (by rw [List.length_append, Hka.out]; exact h64)
                        clear hLs hst HA2 HXA b6
                        go_wp2
                        go_ret2
                        exact ⟨_, rfl, World.ownsRow_nil _ _ _ _, Hw1.out.trans (B6.out.mono Hw1.out.size)⟩
                      · obtain rfl : RP = (acc ++ [a], 0) := by rw [← HRP.out, hLs]; exact if_neg (by rw [List.length_append, Hka.out]; exact h64)
                        clear hLs hst HA2 HXA b6
                        go_wp2
                        go_ret2
                        exact ⟨_, rfl, own_low O6.out Hw1.out.size, Hw1.out.trans (B6.out.mono Hw1.out.size)⟩
                · have hk1 : ((k : Int) == 0) = false := by rw [beq_eq_false_iff_ne]; omega
                  have g3 : ((c.toNat : Int) != 60) = true := by rw [h114]; rfl
                  by_cases hjn2 : j + 2 < n
                  · obtain rfl : RP = ([], 2) := by rw [← HRP.out, gst_none hst.out (by rw [HA.out, aw_three (by omega) (by rw [Hn.out]; exact hjn2), if_neg (by rw [Ht.out, Hc.out, h114]; rintro ⟨h, _⟩; exact absurd h (by decide))])]; rfl
                    clear h114 HA Ht Hc HT hws hst
                    go_wp2_with fail
                    refine (hatm _).mono ?_
                    rintro e w2 ⟨rfl, h9⟩
                    obtain rfl := h9.symm
                    clear h9 hatm
                    go_wp2
                    go_ret2
                    exact ⟨_, rfl, World.ownsRow_nil _ _ _ _, Hw1.out.trans ((Hbr.out.trans (Hba.out.mono Hbr.out.size)).mono Hw1.out.size)⟩
                  · obtain rfl : RP = ([], 2) := by rw [← HRP.out, gst_none hst.out (by rw [HA.out]; exact aw_short (by omega) (by rw [Hn.out]; exact hjn2))]; rfl
                    clear h114 HA Ht Hc HT hws hst
                    go_wp2_with fail
                    refine (hatm _).mono ?_
                    rintro e w2 ⟨rfl, h9⟩
                    obtain rfl := h9.symm
                    clear h9 hatm
                    go_wp2
                    go_ret2
                    exact ⟨_, rfl, World.ownsRow_nil _ _ _ _, Hw1.out.trans ((Hbr.out.trans (Hba.out.mono Hbr.out.size)).mono Hw1.out.size)⟩
            have g2 : ((c.toNat : Int) == 114) = false := nat_ne h114
            have hw : isWordA t = false := by
              unfold isWordA
              rw [Hc.out, beq_eq_false_iff_ne.2 h113, beq_eq_false_iff_ne.2 h114]
              rfl
            have HA := Lib.hid (wst_stop hws.out.1 (fun hj => by rw [Ht.out]; exact hw))
            clear hyes hXT hw hatm h113

            by_cases hk0 : k = 0
            · subst hk0
              have g3 : ((c.toNat : Int) != 114) = true := nat_bne h114
              obtain rfl : RP = ([], 2) := by rw [← HRP.out, gst_none hst.out (by rw [HA.out, show j - i = 0 by omega]; exact aw_not hjt (by rw [Ht.out, Hc.out]; exact h114))]; rfl
              clear h114 HA Ht Hc HT hws hst
              go_wp2
              go_ret2
              exact ⟨_, rfl, World.ownsRow_nil _ _ _ _, Hw1.out.trans ((Hbr.out.trans (Hba.out.mono Hbr.out.size)).mono Hw1.out.size)⟩
            have hk1 : ((k : Int) == 0) = false := by rw [beq_eq_false_iff_ne]; omega
            clear h114 HT
            by_cases hjn2 : ¬ j + 2 < n
            · obtain rfl : RP = ([], 2) := by rw [← HRP.out, gst_none hst.out (by rw [HA.out]; exact aw_short (by omega) (by rw [Hn.out]; exact hjn2))]; rfl
              clear HA Ht Hc hws hst
              go_wp2
              go_ret2
              exact ⟨_, rfl, World.ownsRow_nil _ _ _ _, Hw1.out.trans ((Hbr.out.trans (Hba.out.mono Hbr.out.size)).mono Hw1.out.size)⟩
            have hjn3 : j + 2 < n := by omega
            have ht1 : j + 1 < ts.length := by rw [Hn.out]; omega
            have ht2 : j + 2 < ts.length := by rw [Hn.out]; omega
            have HA3 := Lib.hid (HA.out.trans (aw_three (nm := nm) (show j - i ≠ 0 by omega) ht2))
            obtain ⟨_, _, u0, u1⟩ := Hya.out (j + 1) ht1
            obtain ⟨_, _, v0, _⟩ := Hya.out (j + 2) ht2
            obtain ⟨t2, ht2e⟩ : ∃ t, ts[j + 1] = t := ⟨_, rfl⟩
            obtain ⟨c3, hc3⟩ : ∃ c, ts[j + 2].1 = c := ⟨_, rfl⟩
            obtain ⟨c2, hc2⟩ : ∃ c, t2.1 = c := ⟨_, rfl⟩
            obtain ⟨T2, hT2⟩ : ∃ T, textQ t2.2 = T := ⟨_, rfl⟩
            have hT2k : T2.size ≤ 40000 := by
              have h1 := tot_drop ts (j + 1) ht1
              have h2 := tot_le ts (j + 1)
              have h3 := Htot.out
              have h4 : T2.size = t2.2.length := by rw [← hT2]; rfl
              rw [ht2e] at h1
              omega
            have hT2s : T2.size ≤ 1000000 := by omega
            have hTd : T2.data.toList = t2.2 := by rw [← hT2]; rfl
            have hXn := hws.out.2
            rw [ht2e] at u0 u1
            rw [hc2] at u0
            rw [hT2] at u1
            rw [hc3] at v0
            rw [Ht.out, ht2e, Hc.out, hc2, hc3] at HA3
            clear HA hjn2 hc2 hc3 ht2e hws Ht Hc
            by_cases h60 : c = 60
            case neg =>
              have g3 : ((c.toNat : Int) != 60) = true := nat_bne h60
              obtain rfl : RP = ([], 2) := by rw [← HRP.out, gst_none hst.out (by rw [HA3.out, if_neg (fun h => h60 h.1)])]; rfl
              clear HA3 hst h60 hT2 hTd hXn
              go_wp2
              go_ret2
              exact ⟨_, rfl, World.ownsRow_nil _ _ _ _, Hw1.out.trans ((Hbr.out.trans (Hba.out.mono Hbr.out.size)).mono Hw1.out.size)⟩
            have g3 : ((c.toNat : Int) != 60) = false := nat_beq h60
            by_cases h14 : c2 = 114
            case neg =>
              have g4 : ((c2.toNat : Int) != 114) = true := nat_bne h14
              obtain rfl : RP = ([], 2) := by rw [← HRP.out, gst_none hst.out (by rw [HA3.out, if_neg (fun h => h14 h.2.1)])]; rfl
              clear HA3 hst h60 h14 hT2 hTd hXn
              go_wp2
              go_ret2
              exact ⟨_, rfl, World.ownsRow_nil _ _ _ _, Hw1.out.trans ((Hbr.out.trans (Hba.out.mono Hbr.out.size)).mono Hw1.out.size)⟩
            have g4 : ((c2.toNat : Int) != 114) = false := nat_beq h14
            by_cases h62 : c3 = 62
            case neg =>
              have g5 : ((c3.toNat : Int) != 62) = true := nat_bne h62
              obtain rfl : RP = ([], 2) := by rw [← HRP.out, gst_none hst.out (by rw [HA3.out, if_neg (fun h => h62 h.2.2)])]; rfl
              clear HA3 hst h60 h14 h62 hT2 hTd hXn
              go_wp2
              go_ret2
              exact ⟨_, rfl, World.ownsRow_nil _ _ _ _, Hw1.out.trans ((Hbr.out.trans (Hba.out.mono Hbr.out.size)).mono Hw1.out.size)⟩
            have g5 : ((c3.toNat : Int) != 62) = false := nat_beq h62
            have HA4 := Lib.hid (HA3.out.trans (if_pos ⟨h60, h14, h62⟩))
            clear HA3 h60 h14 h62
            cases hm : mailA t2.2 with
            | none =>
              obtain ⟨E, hE⟩ : ∃ E, (⟨#[]⟩ : ByteArray) = E := ⟨_, rfl⟩
              have hmb := fun W => r11mail_E hT2s (by rw [hTd]; exact hm) hE W
              obtain rfl : RP = ([], 2) := by rw [← HRP.out, gst_none hst.out (by rw [HA4.out, hm])]; rfl
              clear hTd hm HA4 hst hE hT2 hXn
              go_wp2_with fail
              refine (hmb _).mono ?_
              rintro e w2 ⟨rfl, hw2⟩
              have hb2 := Hba.out.trans (hw2.mono Hba.out.size)
              obtain ⟨w3, hw3⟩ : ∃ w3, w2.alloc (.cells #[.string E, .string E, .string E] 40) = w3 := ⟨_, rfl⟩
              have hrb : RAt w3 w2.heap.size E E E := by rw [← hw3]; exact rat_new w2 _ _ _
              have hb3 : Below wr.heap.size wr w3 := by rw [← hw3]; exact hb2.alloc (by exact hb2.size) _
              have hb4 := Hbr.out.trans ((hb3.setCell (p := ⟨w2.heap.size, 0, none⟩) (by exact hb2.size) (.string X)).mono Hbr.out.size)
              obtain ⟨x0, x1, x2, x3, x4, x5⟩ := hrb.cells
              clear hmb hw2 hb2 hb3 hrb
              go_wp2
              go_ret2
              exact ⟨_, rfl, World.ownsRow_nil _ _ _ _, Hw1.out.trans (hb4.mono Hw1.out.size)⟩
            | some b =>
              have hbl : b.2.1.length ≤ 40000 ∧ b.2.2.length ≤ 40000 := by
                have h1 := congrArg List.length (mail_some hm).2.1
                have h2 : T2.size = t2.2.length := by rw [← hTd]; rfl
                have h3 := tot_drop ts (j + 1) ht1
                rw [List.length_append, List.length_cons] at h1
                have h4 : t2.2.length ≤ 40000 := by rw [← h2]; exact hT2k
                omega
              have hXs2 : nm.length ≤ 1000000 := by
                have h8 : X.size = nm.length := by rw [← hXn]; rfl
                omega
              obtain ⟨XB, hXB⟩ : ∃ X, textQ b.1 = X := ⟨_, rfl⟩
              obtain ⟨YA, hYA⟩ : ∃ X, textQ b.2.1 = X := ⟨_, rfl⟩
              obtain ⟨ZA, hZA⟩ : ∃ X, textQ b.2.2 = X := ⟨_, rfl⟩
              have hmb := fun W => r11mail_yes hT2s (by rw [hTd]; exact hm) W
              rw [hXB, hYA, hZA] at hmb
              have hrt2 := fun W => r11right_any (nm, b.2.1, b.2.2) W (by exact hXs2) (by show b.2.1.length ≤ _; omega) (by show b.2.2.length ≤ _; omega)
              unfold addrV at hrt2
              simp only [hXn, hYA, hZA] at hrt2
              cases hr : rightA (nm, b.2.1, b.2.2) with
              | false =>
                rw [hr] at hrt2
                obtain rfl : RP = ([], 2) := by rw [← HRP.out, gst_none hst.out (by rw [HA4.out, hm]; exact if_neg (by rw [hr]; simp))]; rfl
                clear hTd hm HA4 hst hT2 hXn hXB hYA hZA hr hbl hXs2
                go_wp2_with fail
                refine (hmb _).mono ?_
                rintro e w2 ⟨rfl, hw2⟩
                obtain ⟨w3, hw3⟩ : ∃ w3, w2.alloc (.cells #[.string XB, .string YA, .string ZA] 40) = w3 := ⟨_, rfl⟩
                have l3 : Below w2.heap.size w2 w3 := by rw [← hw3]; exact (Below.refl _ _).alloc (Nat.le_refl _) _
                have hrb : RAt w3 w2.heap.size XB YA ZA := by rw [← hw3]; exact rat_new w2 _ _ _
                have hB := Hba.out.trans ((hw2.trans (l3.mono hw2.size)).mono Hba.out.size)
                have hB4 : Below wr.heap.size wr (w3.setCell ⟨w2.heap.size, 0, none⟩ (.string X)) := hB.setCell (p := ⟨w2.heap.size, 0, none⟩) (Nat.le_trans Hba.out.size hw2.size) (.string X)
                obtain ⟨x0, x1, x2, x3, x4, x5⟩ := hrb.cells
                obtain ⟨m0, m1, m2, _⟩ := (hrb.name X).cells
                clear hmb hw2 l3 hB hrb
                go_wp2_with fail
                refine (hrt2 _).mono ?_
                rintro e w7 ⟨rfl, hw7⟩
                have hb7 := Hbr.out.trans ((hB4.trans (hw7.mono hB4.size)).mono Hbr.out.size)
                clear hrt2 hw7 hB4 m0 m1 m2
                go_wp2
                go_ret2
                exact ⟨_, rfl, World.ownsRow_nil _ _ _ _, Hw1.out.trans (hb7.mono Hw1.out.size)⟩
              | true =>
                rw [hr] at hrt2
                obtain ⟨a, ha⟩ : ∃ a, (nm, b.2.1, b.2.2) = a := ⟨_, rfl⟩
                obtain ⟨XA, hXA⟩ : ∃ Y, X = Y := ⟨_, rfl⟩
                have HXA : Hid (textQ a.1 = XA ∧ textQ a.2.1 = YA ∧ textQ a.2.2 = ZA) := Lib.hid (by rw [← ha, ← hXA]; exact ⟨hXn, hYA, hZA⟩)
                have HA2 : Hid (addrS (ts.drop i) = some (a, ts.drop (j + 3))) := Lib.hid (by rw [HA4.out, hm, ← ha]; exact if_pos hr)
                clear hTd hm HA4 hT2 hXn hXB hYA hZA hr hbl hXs2 ha
                subst hXA
                go_wp2_with fail
                refine (hmb _).mono ?_
                rintro e w2 ⟨rfl, hw2⟩
                obtain ⟨w3, hw3⟩ : ∃ w3, w2.alloc (.cells #[.string XB, .string YA, .string ZA] 40) = w3 := ⟨_, rfl⟩
                have l3 : Below w2.heap.size w2 w3 := by rw [← hw3]; exact (Below.refl _ _).alloc (Nat.le_refl _) _
                have hrb : RAt w3 w2.heap.size XB YA ZA := by rw [← hw3]; exact rat_new w2 _ _ _
                have hB := Hba.out.trans ((hw2.trans (l3.mono hw2.size)).mono Hba.out.size)
                have hB4 : Below wr.heap.size wr (w3.setCell ⟨w2.heap.size, 0, none⟩ (.string X)) := hB.setCell (p := ⟨w2.heap.size, 0, none⟩) (Nat.le_trans Hba.out.size hw2.size) (.string X)
                have hra3 := (Hra.out.below hw2).below l3
                have hra4 : RAt (w3.setCell ⟨w2.heap.size, 0, none⟩ (.string X)) wr.heap.size ⟨#[]⟩ ⟨#[]⟩ ⟨#[]⟩ := (heap_setCell_other w3 _ _ _ (by show wr.heap.size ≠ w2.heap.size; have h1 := Hra.out.lt; have h2 := hw2.size; omega)).trans hra3
                obtain ⟨x0, x1, x2, x3, x4, x5⟩ := hrb.cells
                have hrn := hrb.name X
                obtain ⟨m0, m1, m2, _⟩ := id hrn.cells
                clear hmb hw2 l3 hB hrb hra3
                go_wp2_with fail
                refine (hrt2 _).mono ?_
                rintro e w7 ⟨rfl, hw7⟩
                have hB := hB4.trans (hw7.mono hB4.size)
                have hrt := hra4.below hw7
                obtain ⟨q0, q1, q2, q3, q4, q5⟩ := hrt.cells
                obtain ⟨n0, n1, n2, _⟩ := (hrn.below hw7).cells
                clear hrt2 hw7 hB4 m0 m1 m2 x0 x1 x2 x3 x4 x5 hrn hra4
                obtain ⟨p0, p1, p2, _⟩ := (hrt.put X YA ZA).cells
                have hbp := below_put hB (Nat.le_refl _) X YA ZA
                obtain ⟨w5, hw5⟩ : ∃ w5, (((w7.setCell ⟨wr.heap.size, 0, none⟩ (.string X)).setCell ⟨wr.heap.size, 1, none⟩ (.string YA)).setCell ⟨wr.heap.size, 2, none⟩ (.string ZA)).alloc (.cells #[.string X, .string YA, .string ZA] 40) = w5 := ⟨_, rfl⟩
                have h5n : RAt w5 (((w7.setCell ⟨wr.heap.size, 0, none⟩ (.string X)).setCell ⟨wr.heap.size, 1, none⟩ (.string YA)).setCell ⟨wr.heap.size, 2, none⟩ (.string ZA)).heap.size X YA ZA := by rw [← hw5]; exact rat_new _ _ _ _
                have hb5 : Below wr.heap.size wr w5 := by rw [← hw5]; exact hbp.alloc (by exact hbp.size) _
                have Hoa : Hid (AddrsOwn 40 w5 w1.heap.size (.slice ao2 ka cap2) acc) := Lib.hid (by rw [← Hka.out]; exact ownsRow_belowA Hown.out hb5)
                have Hb5 := Lib.hid (Hbr.out.trans (hb5.mono Hbr.out.size))
                have hcc : w5.cell? ⟨(((w7.setCell ⟨wr.heap.size, 0, none⟩ (.string X)).setCell ⟨wr.heap.size, 1, none⟩ (.string YA)).setCell ⟨wr.heap.size, 2, none⟩ (.string ZA)).heap.size, 0, none⟩ = some (.string (textQ a.1)) ∧ w5.cell? ⟨(((w7.setCell ⟨wr.heap.size, 0, none⟩ (.string X)).setCell ⟨wr.heap.size, 1, none⟩ (.string YA)).setCell ⟨wr.heap.size, 2, none⟩ (.string ZA)).heap.size, 1, none⟩ = some (.string (textQ a.2.1)) ∧ w5.cell? ⟨(((w7.setCell ⟨wr.heap.size, 0, none⟩ (.string X)).setCell ⟨wr.heap.size, 1, none⟩ (.string YA)).setCell ⟨wr.heap.size, 2, none⟩ (.string ZA)).heap.size, 2, none⟩ = some (.string (textQ a.2.2)) := by
                  rw [HXA.out.1, HXA.out.2.1, HXA.out.2.2]
                  exact ⟨h5n.cells.1, h5n.cells.2.1, h5n.cells.2.2.1⟩
                have Hcc := Lib.hid hcc
                clear hbp h5n hb5 hcc hB hrt
                go_wp2_with (at_builtin; refine append_addrA 40 30 infoRAddr Tryd.underlying30 rfl _ _ rfl w1.heap.size (.slice ao2 ka cap2) acc a rfl Hoa.out Hb5.out.size (by rw [Hka.out]; omega) _ 1 rfl (by first | exact Hcc.out.1 | simpa using Hcc.out.1) (by first | exact Hcc.out.2.1 | simpa using Hcc.out.2.1) (by first | exact Hcc.out.2.2 | simpa using Hcc.out.2.2) ?_)
                intro v' w6 hown6 hgrow
                have b6 : Below w1.heap.size w1 w6 := Hb5.out.grown hgrow Hb5.out.size (fun q hq => (Hoa.out.lt q hq).1)
                have e9 : (acc ++ [a]).length = ka + 1 := by rw [List.length_append, Hka.out]; rfl
                have o6 : w6.ownsRow w1.heap.size 40 3 v' (ka + 1) (addrsCells (acc ++ [a])) := by rw [← e9]; exact hown6
                obtain ⟨ao6, cap6, rfl⟩ := row_slice o6
                have O6 : Hid (AddrsOwn 40 w6 w1.heap.size (.slice ao6 (ka + 1) cap6) (acc ++ [a])) := Lib.hid hown6
                have B6 := Lib.hid b6
                clear hown6 hgrow o6 e9 Hoa Hb5 Hcc p0 p1 p2
                by_cases hJn : j + 3 < n
                · have hJt : j + 3 < ts.length := by rw [Hn.out]; exact hJn
                  obtain ⟨_, hg6, y0, y1⟩ := HY.out w6 b6 (j + 3) hJt
                  obtain ⟨d, hd⟩ : ∃ d, ts[j + 3].1 = d := ⟨_, rfl⟩
                  rw [hd] at y0
                  have f1 : ((j : Int) + 3 == (n : Int)) = false := by rw [beq_eq_false_iff_ne]; omega
                  clear b6 y1
                  by_cases h44 : d = 44
                  · have f2 : ((d.toNat : Int) != 44) = false := nat_beq h44
                    have Hn2 := Lib.hid (gst_next hst.out (by omega) HA2.out hJt (by rw [hd]; exact h44))
                    clear hd h44 hst HA2 HXA hJt
                    go_wp2
                    go_roundw
                    case rel => exact ⟨j + 3 + 1, acc ++ [a], by omega, by go_num, O6.out, Hn2, B6.out⟩
                    case measure => simp [intOf]; omega
                  · have f2 : ((d.toNat : Int) != 44) = true := nat_bne h44
                    obtain rfl : RP = ([], 2) := by rw [← HRP.out, gst_sep hst.out HA2.out hJt (by rw [hd]; exact h44)]; rfl
                    clear hd h44 hst HA2 HXA hJt
                    go_wp2
                    go_ret2
                    exact ⟨_, rfl, World.ownsRow_nil _ _ _ _, Hw1.out.trans (B6.out.mono Hw1.out.size)⟩
                · have f1 : ((j : Int) + 3 == (n : Int)) = true := by rw [beq_iff_eq]; omega
                  have hLs := gst_end hst.out HA2.out (by rw [Hn.out]; exact hJn)
                  by_cases h64 : 64 < ka + 1
                  · obtain rfl : RP = ([], 3) := by rw [← HRP.out, hLs]; exact if_pos (by rw [List.length_append, Hka.out]; exact h64)
                    clear hLs hst HA2 HXA b6
                    go_wp2
                    go_ret2
                    exact ⟨_, rfl, World.ownsRow_nil _ _ _ _, Hw1.out.trans (B6.out.mono Hw1.out.size)⟩
                  · obtain rfl : RP = (acc ++ [a], 0) := by rw [← HRP.out, hLs]; exact if_neg (by rw [List.length_append, Hka.out]; exact h64)
                    clear hLs hst HA2 HXA b6
                    go_wp2
                    go_ret2
                    exact ⟨_, rfl, own_low O6.out Hw1.out.size, Hw1.out.trans (B6.out.mono Hw1.out.size)⟩
          · have hj0 : j = n := by omega
            clear hj0
            have HA := Lib.hid (wst_stop hws.out.1 (fun hj => absurd hj (by rw [Hn.out]; exact hjl)))
            by_cases hk0 : k = 0
            · subst hk0
              obtain rfl : RP = ([], 2) := by rw [← HRP.out, gst_none hst.out (by rw [HA.out, show j - i = 0 by omega]; exact aw_end (by rw [Hn.out]; exact hjl))]; rfl
              clear HA hws hst
              go_wp2
              go_ret2
              exact ⟨_, rfl, World.ownsRow_nil _ _ _ _, Hw1.out.trans ((Hbr.out.trans (Hba.out.mono Hbr.out.size)).mono Hw1.out.size)⟩
            · have hk1 : ((k : Int) == 0) = false := by rw [beq_eq_false_iff_ne]; omega
              obtain rfl : RP = ([], 2) := by rw [← HRP.out, gst_none hst.out (by rw [HA.out]; exact aw_short (by omega) (by rw [Hn.out]; omega))]; rfl
              clear HA hws hst
              go_wp2
              go_ret2
              exact ⟨_, rfl, World.ownsRow_nil _ _ _ _, Hw1.out.trans ((Hbr.out.trans (Hba.out.mono Hbr.out.size)).mono Hw1.out.size)⟩
end Go.Proofs.YtemkikpdmihmpaaDoor
