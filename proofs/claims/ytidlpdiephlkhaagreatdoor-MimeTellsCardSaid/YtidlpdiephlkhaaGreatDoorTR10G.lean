/-
  The document's answer of layer 10: what parsing comes to.
-/
import Derived.Test.YtidlpdiephlkhaaGreatDoorT39
namespace Go.Proofs.YtidlpdiephlkhaaGreatDoor
open Go.RowKit

theorem parse_facts {s : TextH} {ls : List TextH} {rest : TextH} (h : topA s = some (ls, rest)) :
    (longH ls = true → parseH s = (([], []), 3)) ∧ (longH ls = false → goesH (ls.headD []) = true → parseH s = (([], []), 2)) ∧ (longH ls = false → fieldsH (joinH ls) = none → parseH s = (([], []), 2)) ∧
    (longH ls = false → ∀ l, fieldsH (joinH ls) = some l → 64 < l.length → parseH s = (([], []), 3)) ∧ (longH ls = false → ∀ l, fieldsH (joinH ls) = some l → ¬ 64 < l.length → parseH s = ((l, rest), 0)) := by
  have h2 : topH (s.length + 1) s = some (ls, rest) := h
  refine ⟨fun a => ?_, fun a b => ?_, fun a b => ?_, fun a l b c => ?_, fun a l b c => ?_⟩
  · rw [parse_plain, h2]
    show (if longH ls = true then _ else _) = _
    rw [if_pos a]
  · unfold parseH
    rw [h2]
    show (if longH ls = true then _ else _) = _
    rw [if_neg (by rw [a]; decide), if_pos b]
  · rw [parse_plain, h2]
    show (if longH ls = true then _ else _) = _
    rw [if_neg (by rw [a]; decide), b]
  · rw [parse_plain, h2]
    show (if longH ls = true then _ else _) = _
    rw [if_neg (by rw [a]; decide), b]
    show (if 64 < l.length then _ else _) = _
    rw [if_pos c]
  · rw [parse_plain, h2]
    show (if longH ls = true then _ else _) = _
    rw [if_neg (by rw [a]; decide), b]
    show (if 64 < l.length then _ else _) = _
    rw [if_neg c]
theorem flat_part (ls : List TextH) (t m : Nat) : ((ls.drop t).take m).flatten.length ≤ ls.flatten.length := by
  have h1 : ls.flatten.length = (ls.take t).flatten.length + (ls.drop t).flatten.length := by
    rw [← List.length_append, ← List.flatten_append, List.take_append_drop]
  have h2 : (ls.drop t).flatten.length = ((ls.drop t).take m).flatten.length + ((ls.drop t).drop m).flatten.length := by
    rw [← List.length_append, ← List.flatten_append, List.take_append_drop]
  omega
theorem goes_head (X : ByteArray) (x : TextH) (h : X.data.toList = x) (hx : 0 < X.size) : goesH x = blankH X[0] := by
  rw [← h]
  exact goes_firstR X hx

set_option maxRecDepth 100000 in
set_option maxHeartbeats 16000000 in
theorem r10parse_any (s : ByteArray) (w : World) (hs : s.size ≤ 1000000) :
    Calls Tryz.prog 59 #[.string s] w (ParsePost s.data.toList w) := by
  have hsl : s.data.toList.length = s.size := rfl
  have Hsl := Lib.hid hsl
  clear hsl
  go_enter Tryz.func59, Tryz.ntmps59
  go_wp2
  go_loopw [5, 6, 7, 8] (fun lv fv iv dv wr => ∃ (fr i : Nat) (done : Bool) (ls : List TextH), fv = .int .i64 fr ∧ iv = .int .i64 i ∧ dv = .bool done ∧ i ≤ s.size ∧ ls.length ≤ s.size ∧ Hid (TopSt s.data.toList fr i done ls) ∧ TextsOwn wr w.heap.size lv ls ∧ Below w.heap.size w wr) (fun _ _ iv _ _ => s.size - (intOf iv).toNat)
  case atStart => exact ⟨0, 0, false, [], rfl, rfl, rfl, Nat.zero_le _, Nat.zero_le _, Lib.hid (top_start _), World.ownsRow_nil _ _ _ _, Below.refl _ _⟩
  case round =>
    obtain ⟨fr, i, done, ls, rfl, rfl, rfl, hi, hll, hst, hown, hbr⟩ := hrel
    have hfr : fr ≤ i := hst.out.2.1
    have hwr1 : IntKind.i64.wrap ((i : Int) + 1) = (i : Int) + 1 := by rw [IntWalk.i64_in _ (by omega)]
    have hwr2 : IntKind.i64.wrap ((i : Int) + 2) = (i : Int) + 2 := by rw [IntWalk.i64_in _ (by omega)]
    have hbz := hbr.size
    cases done with
    | false =>
      by_cases hlt : i + 1 < s.size
      · have ilt : (i : Int) + 1 < (s.size : Int) := by omega
        have hi0 : i < s.size := by omega
        by_cases hcr : s[i] = 13 ∧ s[i + 1] = 10
        · obtain ⟨h13, h10⟩ := hcr
          have q1 : ((s[i].toNat : Int) != 13) = false := by rw [h13]; rfl
          have q2 : ((s[i + 1].toNat : Int) != 10) = false := by rw [h10]; rfl
          by_cases heq : i = fr
          · subst heq
            have Hn := Lib.hid (top_found hst.out hlt h13 h10)
            have q3 : ((i : Int) == (i : Int)) = true := by simp
            clear h13 h10 hst
            go_wp2
            go_roundw
            case rel => exact ⟨i + 2, i + 2, true, ls, by go_num, by go_num, rfl, by omega, hll, Hn, hown, hbr⟩
            case measure => simp [intOf]; omega
          · have Hn := Lib.hid (top_more hst.out heq hlt h13 h10)
            have hX : s.extract fr i = textQ ((s.data.toList.drop fr).take (i - fr)) := cut_text s fr i
            have hlen := hst.out.2.2.2.1
            obtain ⟨x, hx⟩ : ∃ x, (s.data.toList.drop fr).take (i - fr) = x := ⟨_, rfl⟩
            rw [hx] at hX Hn
            obtain ⟨X, hXe⟩ : ∃ X, textQ x = X := ⟨_, rfl⟩
            rw [hXe] at hX
            have q3 : ((i : Int) == (fr : Int)) = false := by rw [beq_eq_false_iff_ne]; omega
            have s1 : (0 : Int) ≤ (fr : Int) := by omega
            have s2 : (fr : Int) ≤ (i : Int) := by omega
            have s3 : (i : Int) ≤ (s.size : Int) := by omega
            have happ : TextsOwn (wr.alloc (.cells #[.string X] 9)) w.heap.size _ ls := World.ownsRow.alloc hown (.cells #[.string X] 9)
            have h0 : (wr.alloc (.cells #[.string X] 9)).cell? ⟨wr.heap.size, 0, none⟩ = some (.string (textQ x)) := by
              rw [hXe]
              exact Lib.cell_of_heap (heap_alloc_new wr (.cells #[.string X] 9)) 0
            have hz1 := World.size_alloc wr (.cells #[.string X] 9)
            have HX := Lib.hid hXe
            clear h13 h10 hst hx hown hXe
            go_wp2_with (first | (at_builtin; refine wpList_append_text rfl _ _ rfl w.heap.size _ ls x rfl happ (by omega) (by omega) wr.heap.size 1 rfl h0 ?_) | fail)
            intro v' w' hown' hg
            have hb' : Below w.heap.size w w' := (hbr.alloc hbz (.cells #[.string X] 9)).grown hg (by omega) fun q hk => (row_block happ hk).1
            clear happ h0 hg hbr hX
            go_wp2
            go_roundw
            case rel => exact ⟨i + 2, i + 2, false, ls ++ [x], by go_num, by go_num, rfl, by omega, by rw [List.length_append]; simp; omega, Hn, hown', hb'⟩
            case measure => simp [intOf]; omega
        · have Hn := Lib.hid (top_skip hst.out hlt hcr)
          by_cases h13 : s[i] = 13
          · have q1 : ((s[i].toNat : Int) != 13) = false := by rw [h13]; rfl
            have q2 : ((s[i + 1].toNat : Int) != 10) = true := by
              rw [bne_iff_ne]
              intro e
              exact hcr ⟨h13, UInt8.toNat_inj.1 (by show _ = 10; omega)⟩
            clear hst hcr h13
            go_wp2
            go_roundw
            case rel => exact ⟨fr, i + 1, false, ls, rfl, by go_num, rfl, by omega, hll, Hn, hown, hbr⟩
            case measure => simp [intOf]; omega
          · have q1 : ((s[i].toNat : Int) != 13) = true := by
              rw [bne_iff_ne]
              intro e
              exact h13 (UInt8.toNat_inj.1 (by show _ = 13; omega))
            clear hst hcr h13
            go_wp2
            go_roundw
            case rel => exact ⟨fr, i + 1, false, ls, rfl, by go_num, rfl, by omega, hll, Hn, hown, hbr⟩
            case measure => simp [intOf]; omega
      · have ilt : ¬ ((i : Int) + 1 < (s.size : Int)) := by omega
        have Hn : Hid (parseH s.data.toList = (([], []), 2)) := Lib.hid (by
          have h1 : topH (s.data.toList.length + 1) s.data.toList = none := top_fail hst.out (by rw [Hsl.out]; exact hlt)
          rw [parse_plain, h1])
        clear hst
        go_wp2
        go_ret3
        exact post_bad Hn.out hbr
    | true =>
      have htop := top_done hst.out
      have HF := Lib.hid (parse_facts htop)
      have Hne : Hid (∀ x ∈ ls, x ≠ []) := Lib.hid hst.out.1
      have hfl : ls.flatten.length ≤ 1000000 := by have := hst.out.2.2.2.2.1; omega
      obtain ⟨A, cp, rfl, hS, hnc, hcm⟩ := Strs.of_ownC hown
      obtain ⟨n, hn⟩ : ∃ n, ls.length = n := ⟨_, rfl⟩
      have Hn := Lib.hid hn
      have Hfl := Lib.hid hfl
      rw [hn] at hS hnc hll
      unfold maxLen at hcm
      rw [hn]
      have HS := Lib.hid hS
      obtain ⟨w1, hw1⟩ : ∃ w1, w1 = wr := ⟨_, rfl⟩
      subst hw1
      clear htop hst hown hn hfl hS
      have hq : (((i : Int) + 1 < (s.size : Int))) ∨ ¬ (((i : Int) + 1 < (s.size : Int))) := Classical.em _
      rcases hq with ilt | ilt
      all_goals
        go_wp2
        go_loop [9] (fun kv => ∃ k : Nat, k ≤ n ∧ kv = .int .i64 k ∧ Hid (∀ j (hj : j < ls.length), j < k → ls[j].length ≤ 998)) (fun kv => n - (intOf kv).toNat)
        case atStart => exact ⟨0, by omega, rfl, Lib.hid (fun j _ h => by omega)⟩
        case round =>
          obtain ⟨k, hk, rfl, hall⟩ := hrel
          have hwk : IntKind.i64.wrap ((k : Int) + 1) = (k : Int) + 1 := by rw [IntWalk.i64_in _ (by omega)]
          by_cases hkl : k < n
          · have hil : k < ls.length := by rw [Hn.out]; exact hkl
            obtain ⟨b, off, rfl, hb, hcl⟩ := HS.out.at_ hkl
            have hc := hcl k hkl
            rw [texts_get ls k hil] at hc
            have hbad : Hid (998 < ls[k].length → parseH s.data.toList = (([], []), 3)) := Lib.hid fun h => HF.out.1 (by
              unfold longH
              rw [List.any_eq_true]
              exact ⟨ls[k], List.getElem_mem hil, decide_eq_true h⟩)
            have hyes : Hid (¬ 998 < ls[k].length → ∀ j (hj : j < ls.length), j < k + 1 → ls[j].length ≤ 998) := Lib.hid fun h j hj h3 => by
              rcases Nat.lt_or_ge j k with h4 | h4
              · exact hall.out j hj h4
              · obtain rfl : j = k := by omega
                omega
            obtain ⟨X, hX⟩ : ∃ X, textQ ls[k] = X := ⟨_, rfl⟩
            have hXs : X.size = ls[k].length := by rw [← hX]; rfl
            rw [hX] at hc
            rw [← hXs] at hbad hyes
            clear hX hXs hcl hil hall
            by_cases h998 : 998 < X.size
            · have Hr := Lib.hid (hbad.out h998)
              clear hbad hyes
              go_wp2
              go_ret3
              exact post_bad Hr.out hbr
            · have Hr := Lib.hid (hyes.out h998)
              clear hbad hyes
              go_wp2
              go_round
              case rel => exact ⟨k + 1, by omega, by go_num, Hr⟩
              case measure => simp [intOf]; omega
          · obtain rfl : k = n := by omega
            have hlong : longH ls = false := by
              unfold longH
              rw [List.any_eq_false]
              intro x hx
              obtain ⟨j, hj, rfl⟩ := List.mem_iff_getElem.1 hx
              have := hall.out j hj (by rw [← Hn.out]; exact hj)
              simp
              omega
            obtain ⟨R, hR⟩ : ∃ R, fieldsH (joinH ls) = R := ⟨_, rfl⟩
            have HG : Hid ((goesH (ls.headD []) = true → parseH s.data.toList = (([], []), 2)) ∧ (R = none → parseH s.data.toList = (([], []), 2)) ∧ (∀ l, R = some l → 64 < l.length → parseH s.data.toList = (([], []), 3)) ∧ (∀ l, R = some l → ¬ 64 < l.length → parseH s.data.toList = ((l, s.data.toList.drop fr), 0))) := Lib.hid (by
              obtain ⟨_, f2, f3, f4, f5⟩ := HF.out
              rw [hR] at f3 f4 f5
              exact ⟨f2 hlong, f3 hlong, f4 hlong, f5 hlong⟩)
            have HR0 := Lib.hid hR
            clear hlong hR hall HF
            go_wp2
            go_loopw [10, 11, 12, 13, 14, 15, 16] (fun ov kv _ _ _ _ _ wx => ∃ (t : Nat) (acc : List FieldH), kv = .int .i64 t ∧ t ≤ k ∧ acc.length ≤ t ∧ Hid (R = (fieldsH (joinH (ls.drop t))).map (acc ++ ·) ∧ (0 < t → goesH ((ls.drop t).headD []) = false)) ∧ FieldsOwn wx w1.heap.size ov acc ∧ Below w1.heap.size w1 wx) (fun _ kv _ _ _ _ _ _ => k - (intOf kv).toNat)
            case atStart => exact ⟨0, [], rfl, Nat.zero_le _, Nat.le_refl _, Lib.hid ⟨by rw [List.drop_zero, HR0.out]; cases R <;> rfl, (by first | exact fun h => absurd h (Nat.lt_irrefl 0) | trivial)⟩, World.ownsRow_nil _ _ _ _, Below.refl _ _⟩
            case round =>
              obtain ⟨t, acc, rfl, ht, hacc, hst3, hown3, hbx⟩ := hrel
              have hbz3 := hbx.size
              have hbxw := hbr.trans (hbx.mono hbz)
              by_cases htk : t < k
              · have htl : t < ls.length := by rw [Hn.out]; exact htk
                obtain ⟨b, off, rfl, hb, hcl⟩ := HS.out.at_ htk
                have Hcl : Hid (∀ (W : World), Below w1.heap.size w1 W → ∀ j (hj : j < ls.length), W.cell? ⟨b, off + j, none⟩ = some (.string (textQ ls[j]))) := Lib.hid fun W hW j hj => (hW.cell (p := ⟨b, off + j, none⟩) hb).trans (by
                  have := hcl j (by rw [← Hn.out]; exact hj)
                  rw [texts_get ls j hj] at this
                  exact this)
                have hc := Hcl.out wr hbx t htl
                have hne0 := Hne.out ls[t] (List.getElem_mem htl)
                have hdt : ls.drop t = ls[t] :: ls.drop (t + 1) := List.drop_eq_getElem_cons htl
                have hx1 : ls[t].length ≤ ls.flatten.length := (List.sublist_flatten_of_mem (List.getElem_mem htl)).length_le
                obtain ⟨x, hx⟩ : ∃ x, ls[t] = x := ⟨_, rfl⟩
                rw [hx] at hc hne0 hdt hx1
                obtain ⟨X, hX⟩ : ∃ X, textQ x = X := ⟨_, rfl⟩
                rw [hX] at hc
                have hXd : X.data.toList = x := by rw [← hX]; rfl
                have hXl : X.size = x.length := by rw [← hX]; rfl
                have hXs : 0 < X.size := by rw [hXl]; exact List.length_pos_iff.2 hne0
                have hXm : X.size ≤ 1000000 := by have := Hfl.out; omega
                have hgo := goes_head X x hXd hXs
                have hblk := fun W => r10blank_any X[0] W
                rw [← hgo] at hblk
                have Hdt := Lib.hid hdt
                have HXd := Lib.hid hXd
                have hb2 : b < wr.heap.size := by omega
                clear hX hx hne0 hdt hgo hx1 hXd hXl hcl
                cases hq2 : goesH x with
                | true =>
                  rw [hq2] at hblk
                  have Hr : Hid (parseH s.data.toList = (([], []), 2)) := Lib.hid (by
                    have h0 : t = 0 := by
                      rcases Nat.eq_zero_or_pos t with h | h
                      · exact h
                      · have := hst3.out.2 h
                        rw [Hdt.out, List.headD_cons, hq2] at this
                        cases this
                    subst h0
                    refine HG.out.1 ?_
                    have := Hdt.out
                    rw [List.drop_zero] at this
                    rw [this]
                    exact hq2)
                  clear hq2
                  go_wp2_with (go_at_call 88; refine (hblk _).mono ?_; rintro e wq ⟨rfl, h9⟩; obtain rfl := h9.symm)
                  go_ret3
                  exact post_bad Hr.out hbxw
                | false =>
                  rw [hq2] at hblk
                  have hwt : IntKind.i64.wrap ((t : Int) + 1) = (t : Int) + 1 := by rw [IntWalk.i64_in _ (by omega)]
                  clear hq2
                  go_wp2_with (go_at_call 88; refine (hblk _).mono ?_; rintro e wq ⟨rfl, h9⟩; obtain rfl := h9.symm)
                  clear hblk hc
                  go_loop [11, 12] (fun kv tv => ∃ (u : Nat) (T : ByteArray), kv = .int .i64 u ∧ tv = .string T ∧ t + 1 ≤ u ∧ u ≤ k ∧ T.size ≤ 1000000 ∧ Hid (T.data.toList = ((ls.drop t).take (u - t)).flatten ∧ ∀ j (hj : j < ls.length), t < j → j < u → goesH ls[j] = true)) (fun kv _ => k - (intOf kv).toNat)
                  case atStart => exact ⟨t + 1, X, by go_num, rfl, Nat.le_refl _, by omega, hXm, Lib.hid ⟨by rw [HXd.out, Hdt.out, show t + 1 - t = 1 by omega]; simp, fun j _ h1 h2 => by omega⟩⟩
                  case round =>
                    obtain ⟨u, T, rfl, rfl, hu1, hu2, hTs, hgr⟩ := hrel
                    have hwu : IntKind.i64.wrap ((u : Int) + 1) = (u : Int) + 1 := by rw [IntWalk.i64_in _ (by omega)]
                    have Hline : Hid (∀ hul : u < ls.length, ∃ Y : ByteArray, textQ ls[u] = Y ∧ Y.data.toList = ls[u] ∧ ∃ h : 0 < Y.size, goesH ls[u] = blankH Y[0]) := Lib.hid fun hul => by
                      have hne := Hne.out ls[u] (List.getElem_mem hul)
                      have hp : 0 < (textQ ls[u]).size := List.length_pos_iff.2 hne
                      exact ⟨_, rfl, rfl, hp, goes_head (textQ ls[u]) _ rfl hp⟩
                    by_cases hgoon : ∃ (h : u < ls.length), goesH ls[u] = true
                    · obtain ⟨hul, hgu⟩ := hgoon
                      have huk : u < k := by rw [← Hn.out]; exact hul
                      obtain ⟨Y, hY, hYd, hYs, hYg⟩ := Hline.out hul
                      have hcu := Hcl.out wr hbx u hul
                      rw [hY] at hcu
                      rw [hgu] at hYg
                      have hblk : ∀ W, Calls Tryz.prog 88 #[.int .u8 (Y[0].toNat : Int)] W fun e w' => e = .returned (.bool true) ∧ w' = W := fun W => by
                        have := r10blank_any Y[0] W
                        rw [← hYg] at this
                        exact this
                      have hTY : (T ++ Y).data.toList = ((ls.drop t).take (u + 1 - t)).flatten := by
                        rw [ByteArray.data_append, Array.toList_append, hgr.out.1, hYd, show u + 1 - t = (u - t) + 1 by omega, List.take_succ_eq_append_getElem (by rw [List.length_drop]; omega), List.flatten_append]
                        simp only [List.getElem_drop, show t + (u - t) = u by omega]
                        simp
                      have hTYs : (T ++ Y).size ≤ 1000000 := by
                        have h1 : (T ++ Y).size = (T ++ Y).data.toList.length := rfl
                        have h2 : (((ls.drop t).take (u + 1 - t)).flatten).length ≤ ls.flatten.length := flat_part ls t (u + 1 - t)
                        have := Hfl.out
                        rw [h1, hTY]
                        omega
                      have Hn2 : Hid ((T ++ Y).data.toList = ((ls.drop t).take (u + 1 - t)).flatten ∧ ∀ j (hj : j < ls.length), t < j → j < u + 1 → goesH ls[j] = true) := Lib.hid ⟨hTY, fun j hj h1 h2 => by
                        rcases Nat.lt_or_ge j u with h3 | h3
                        · exact hgr.out.2 j hj h1 h3
                        · obtain rfl : j = u := by omega
                          exact hgu⟩
                      have hcat : ¬ 9223372036854775807 < T.size + Y.size := by rw [ByteArray.size_append] at hTYs; omega
                      have HTYs := Lib.hid hTYs
                      have iuk : (u : Int) < (k : Int) := by omega
                      clear hTY hTYs hYd hYg hY hgr hgu Hline
                      go_wp2_with (go_at_call 88; refine (hblk _).mono ?_; rintro e wq ⟨rfl, h9⟩; obtain rfl := h9.symm)
                      go_round
                      case rel => exact ⟨u + 1, T ++ Y, by go_num, rfl, by omega, by omega, HTYs.out, Hn2⟩
                      case measure => simp [intOf]; omega
                    · have Htog : Hid (joinH (ls.drop t) = T.data.toList :: joinH (ls.drop u) ∧ (0 < u → goesH ((ls.drop u).headD []) = false)) := Lib.hid (by
                        have hne : ls.drop t ≠ [] := fun e => by
                          have := congrArg List.length e
                          rw [List.length_drop] at this
                          simp at this
                          omega
                        have hn3 := Hn.out
                        have htog := tog_iff (ls.drop t) (u - t) (by omega) (by rw [List.length_drop]; omega) (fun j h h1 h2 => by
                          simp only [List.getElem_drop]
                          rw [List.length_drop] at h
                          exact hgr.out.2 (t + j) (by omega) (by omega) (by omega)) (fun h => by
                          simp only [List.getElem_drop, show t + (u - t) = u by omega]
                          rw [List.length_drop] at h
                          cases hh : goesH (ls[u]'(by omega)) with
                          | false => rfl
                          | true => exact absurd ⟨by omega, hh⟩ hgoon)
                        refine ⟨?_, fun _ => ?_⟩
                        · rw [tog_join hne, htog, hgr.out.1, List.drop_drop, show t + (u - t) = u by omega]
                        · by_cases hul : u < ls.length
                          · rw [List.drop_eq_getElem_cons hul, List.headD_cons]
                            cases hh : goesH ls[u] with
                            | false => rfl
                            | true => exact absurd ⟨hul, hh⟩ hgoon
                          · rw [List.drop_of_length_le (by omega)]
                            rfl)
                      have hex : (¬ ((u : Int) < (k : Int))) ∨ ((u : Int) < (k : Int) ∧ ∃ hul : u < ls.length, goesH ls[u] = false) := by
                        by_cases h : u < k
                        · have hul : u < ls.length := by rw [Hn.out]; exact h
                          refine .inr ⟨by omega, hul, ?_⟩
                          cases hh : goesH ls[u] with
                          | false => rfl
                          | true => exact absurd ⟨hul, hh⟩ hgoon
                        · exact .inl (by omega)
                      clear hgoon hgr
                      rcases hex with huk | ⟨huk, hB⟩
                      all_goals
                        first
                        | (obtain ⟨hul, hgu⟩ := hB
                           obtain ⟨Y, hY, hYd, hYs, hYg⟩ := Hline.out hul
                           have hcu := Hcl.out wr hbx u hul
                           rw [hY] at hcu
                           rw [hgu] at hYg
                           have hblk : ∀ W, Calls Tryz.prog 88 #[.int .u8 (Y[0].toNat : Int)] W fun e w' => e = .returned (.bool false) ∧ w' = W := fun W => by
                             have := r10blank_any Y[0] W
                             rw [← hYg] at this
                             exact this
                           clear hYd hYg hY hgu
                           go_wp2_with (go_at_call 88; refine (hblk _).mono ?_; rintro e wq ⟨rfl, h9⟩; obtain rfl := h9.symm)
                           clear hblk hcu)
                        | go_wp2
                      all_goals
                        clear Hline
                        go_loop [13] (fun cv => ∃ c : Nat, c ≤ T.size ∧ cv = .int .i64 c ∧ Hid (∀ j (hj : j < T.size), j < c → T[j] ≠ 58)) (fun cv => T.size - (intOf cv).toNat)
                        case atStart => exact ⟨0, Nat.zero_le _, rfl, Lib.hid (fun j _ h => by omega)⟩
                        case round =>
                          obtain ⟨c, hc1, rfl, hno⟩ := hrel
                          have hwc : IntKind.i64.wrap ((c : Int) + 1) = (c : Int) + 1 := by rw [IntWalk.i64_in _ (by omega)]
                          by_cases hcT : c < T.size
                          · by_cases h58 : T[c] = 58
                            · have Hf : Hid (fieldH T.data.toList = some (T.data.toList.take c, trimH (T.data.toList.drop (c + 1)))) := Lib.hid (field_cut (w := T.data.toList) hcT h58 (fun j hj h => hno.out j hj h))
                              have q5 : ((T[c].toNat : Int) != 58) = false := by rw [h58]; rfl
                              have q6 : ((c : Int) == (T.size : Int)) = false := by rw [beq_eq_false_iff_ne]; omega
                              clear hno h58
                              go_wp2
                              go_loop [14] (fun av => ∃ a : Nat, c + 1 ≤ a ∧ a ≤ T.size ∧ av = .int .i64 a ∧ Hid (trimH (T.data.toList.drop (c + 1)) = trimH (T.data.toList.drop a))) (fun av => T.size - (intOf av).toNat)
                              case atStart => exact ⟨c + 1, Nat.le_refl _, by omega, by go_num, Lib.hid rfl⟩
                              case round =>
                                obtain ⟨a, ha1, ha2, rfl, htr⟩ := hrel
                                have hwa : IntKind.i64.wrap ((a : Int) + 1) = (a : Int) + 1 := by rw [IntWalk.i64_in _ (by omega)]
                                by_cases hgo6 : ∃ h : a < T.size, blankH T[a] = true
                                · obtain ⟨h6, hb6⟩ := hgo6
                                  have hblk : ∀ W, Calls Tryz.prog 88 #[.int .u8 (T[a].toNat : Int)] W fun e w' => e = .returned (.bool true) ∧ w' = W := fun W => by
                                    have := r10blank_any T[a] W
                                    rw [hb6] at this
                                    exact this
                                  have Ht2 : Hid (trimH (T.data.toList.drop (c + 1)) = trimH (T.data.toList.drop (a + 1))) := Lib.hid (htr.out.trans (trim_first (l := T.data.toList) h6 hb6))
                                  clear hb6 htr
                                  go_wp2_with (go_at_call 88; refine (hblk _).mono ?_; rintro e wq ⟨rfl, h9⟩; obtain rfl := h9.symm)
                                  go_round
                                  case rel => exact ⟨a + 1, by omega, by omega, by go_num, Ht2⟩
                                  case measure => simp [intOf]; omega
                                · have Ha : Hid (∀ h : a < T.size, blankH T[a] = false) := Lib.hid fun h => by
                                    cases hh : blankH T[a] with
                                    | false => rfl
                                    | true => exact absurd ⟨h, hh⟩ hgo6
                                  have hex6 : (¬ ((a : Int) < (T.size : Int))) ∨ ((a : Int) < (T.size : Int) ∧ ∃ h : a < T.size, blankH T[a] = false) := by
                                    by_cases h : a < T.size
                                    · exact .inr ⟨by omega, h, Ha.out h⟩
                                    · exact .inl (by omega)
                                  clear hgo6
                                  rcases hex6 with hna | ⟨hna, hB6⟩
                                  all_goals
                                    first
                                    | (obtain ⟨h6, hb6⟩ := hB6
                                       have hblk : ∀ W, Calls Tryz.prog 88 #[.int .u8 (T[a].toNat : Int)] W fun e w' => e = .returned (.bool false) ∧ w' = W := fun W => by
                                         have := r10blank_any T[a] W
                                         rw [hb6] at this
                                         exact this
                                       clear hb6
                                       go_wp2_with (go_at_call 88; refine (hblk _).mono ?_; rintro e wq ⟨rfl, h9⟩; obtain rfl := h9.symm)
                                       clear hblk)
                                    | go_wp2
                                  all_goals
                                    go_loop [15] (fun bv => ∃ b2 : Nat, a ≤ b2 ∧ b2 ≤ T.size ∧ bv = .int .i64 b2 ∧ Hid (trimH (T.data.toList.drop a) = trimH ((T.data.toList.drop a).take (b2 - a)))) (fun bv => (intOf bv).toNat)
                                    case atStart => exact ⟨T.size, ha2, Nat.le_refl _, rfl, Lib.hid (by rw [List.take_of_length_le (by rw [List.length_drop]; exact Nat.le_refl _)])⟩
                                    case round =>
                                      obtain ⟨b2, hb21, hb22, rfl, htr7⟩ := hrel
                                      have Hwb : Hid (IntKind.i64.wrap ((b2 : Int) - 1) = (b2 : Int) - 1) := Lib.hid (by rw [IntWalk.i64_in _ (by omega)])
                                      by_cases hgo7 : ∃ h : a < b2, blankH (T[b2 - 1]'(by omega)) = true
                                      · obtain ⟨h7, hb7⟩ := hgo7
                                        have hm1 : b2 - 1 < T.size := by omega
                                        have hblk : ∀ W, Calls Tryz.prog 88 #[.int .u8 (T[b2 - 1].toNat : Int)] W fun e w' => e = .returned (.bool true) ∧ w' = W := fun W => by
                                          have := r10blank_any T[b2 - 1] W
                                          rw [hb7] at this
                                          exact this
                                        have hwb2 : IntKind.i64.wrap ((b2 : Int) - 1) = ((b2 - 1 : Nat) : Int) := by rw [Hwb.out]; omega
                                        have iab : (a : Int) < (b2 : Int) := by omega
                                        have Ht2 : Hid (trimH (T.data.toList.drop a) = trimH ((T.data.toList.drop a).take (b2 - 1 - a))) := Lib.hid (htr7.out.trans (trim_last (l := T.data.toList) h7 hb22 hb7))
                                        clear hb7 htr7
                                        go_wp2_with (go_at_call 88; refine (hblk _).mono ?_; rintro e wq ⟨rfl, h9⟩; obtain rfl := h9.symm)
                                        go_round
                                        case rel => exact ⟨b2 - 1, by omega, by omega, by go_num, Ht2⟩
                                        case measure => simp [intOf]; omega
                                      · have Hb : Hid (∀ h : a < b2, blankH (T[b2 - 1]'(by omega)) = false) := Lib.hid fun h => by
                                          cases hh : blankH (T[b2 - 1]'(by omega)) with
                                          | false => rfl
                                          | true => exact absurd ⟨h, hh⟩ hgo7
                                        have hf2 : fieldH T.data.toList = some (T.data.toList.take c, (T.data.toList.drop a).take (b2 - a)) := by
                                          rw [Hf.out, htr.out, htr7.out, trim_done (l := T.data.toList) hb21 hb22 (fun h => Ha.out (by omega)) Hb.out]
                                        have hex7 : (¬ ((a : Int) < (b2 : Int))) ∨ ((a : Int) < (b2 : Int) ∧ ∃ h : a < b2, blankH (T[b2 - 1]'(by omega)) = false) := by
                                          by_cases h : a < b2
                                          · exact .inr ⟨by omega, h, Hb.out h⟩
                                          · exact .inl (by omega)
                                        obtain ⟨f, hfe⟩ : ∃ f : FieldH, (T.data.toList.take c, (T.data.toList.drop a).take (b2 - a)) = f := ⟨_, rfl⟩
                                        obtain ⟨N, hN⟩ : ∃ N, T.extract 0 c = N := ⟨_, rfl⟩
                                        obtain ⟨D, hD⟩ : ∃ N, T.extract a b2 = N := ⟨_, rfl⟩
                                        have hN1 : textQ f.1 = N := by rw [← hfe, ← hN, cut_text]; simp
                                        have hD1 : textQ f.2 = D := by rw [← hfe, ← hD, cut_text]
                                        have hDs : f.2.length ≤ 1000000 := by
                                          rw [← hfe]
                                          show ((T.data.toList.drop a).take (b2 - a)).length ≤ _
                                          rw [List.length_take]
                                          omega
                                        rw [hfe] at hf2
                                        have hright : Hid (∀ W, Calls Tryz.prog 89 #[.agg #[.string N, .string D]] W fun e w' => e = .returned (.bool (rightB f)) ∧ Below W.heap.size W w') := Lib.hid fun W => by
                                          have := r10right_any f W hDs
                                          unfold fieldV at this
                                          rw [hN1, hD1] at this
                                          exact this
                                        have Hnext : Hid (R = (match (if rightB f = true then some f else none) with | none => none | some f => (fieldsH (joinH (ls.drop u))).map (f :: ·)).map (acc ++ ·)) := Lib.hid (by
                                          rw [hst3.out.1, Htog.out.1, fieldsH_cons]
                                          unfold rdP
                                          rw [hf2]
                                          rfl)
                                        have HN1 := Lib.hid hN1
                                        have HD1 := Lib.hid hD1
                                        have e1 : (0 : Int) ≤ (c : Int) := by omega
                                        have e2 : (c : Int) ≤ (T.size : Int) := by omega
                                        have e3 : (0 : Int) ≤ (a : Int) := by omega
                                        have e4 : (a : Int) ≤ (b2 : Int) := by omega
                                        have e5 : (b2 : Int) ≤ (T.size : Int) := by omega
                                        clear hgo7 htr htr7 hf2 hfe hN1 hD1 hDs
                                        rcases hex7 with hnb | ⟨hnb, hB7⟩
                                        all_goals
                                          first
                                          | (exfalso; omega)
                                          | (obtain ⟨h7, hb7⟩ := hB7
                                             have hm1 : b2 - 1 < T.size := by omega
                                             have hblk : ∀ W, Calls Tryz.prog 88 #[.int .u8 (T[b2 - 1].toNat : Int)] W fun e w' => e = .returned (.bool false) ∧ w' = W := fun W => by
                                               have := r10blank_any T[b2 - 1] W
                                               rw [hb7] at this
                                               exact this
                                             have hwb2 : IntKind.i64.wrap ((b2 : Int) - 1) = ((b2 - 1 : Nat) : Int) := by rw [Hwb.out]; omega
                                             clear hb7
                                             go_wp2_with (go_at_call 88; refine (hblk _).mono ?_; rintro e wq ⟨rfl, h9⟩; obtain rfl := h9.symm)
                                             clear hblk)
                                          | go_wp2
                                        all_goals
                                          go_region_with (fail)
                                          have hbf : Below wr.heap.size wr (wr.alloc (.cells #[.string N, .string D] 52)).drew := ((Below.refl wr.heap.size wr).alloc (Nat.le_refl _) (.cells #[.string N, .string D] 52)).drew
                                          have hhf : (wr.alloc (.cells #[.string N, .string D] 52)).drew.heap[wr.heap.size]? = some (.cells #[.string N, .string D] 52 (0, 0)) := heap_alloc_new wr (.cells #[.string N, .string D] 52)
                                          have zf : (wr.alloc (.cells #[.string N, .string D] 52)).drew.heap.size = wr.heap.size + 1 := World.size_alloc wr (.cells #[.string N, .string D] 52)
                                          generalize (wr.alloc (.cells #[.string N, .string D] 52)).drew = wf at hbf hhf zf ⊢
                                          have f0 := Lib.cell_of_heap hhf 0
                                          have f1 := Lib.cell_of_heap hhf 1
                                          clear hhf
                                          go_wp2_with fail
                                          refine (hright.out _).mono ?_
                                          rintro e wg ⟨rfl, hwg⟩
                                          have hbg : Below wr.heap.size wr wg := hbf.trans (hwg.mono (by omega))
                                          have g0 : wg.cell? ⟨wr.heap.size, 0, none⟩ = some (.string N) := (hwg.cell (p := ⟨wr.heap.size, 0, none⟩) (by show wr.heap.size < wf.heap.size; omega)).trans f0
                                          have g1 : wg.cell? ⟨wr.heap.size, 1, none⟩ = some (.string D) := (hwg.cell (p := ⟨wr.heap.size, 1, none⟩) (by show wr.heap.size < wf.heap.size; omega)).trans f1
                                          have hzg : wr.heap.size < wg.heap.size := by have := hwg.size; omega
                                          clear hright hwg hbf f0 f1 zf
                                          obtain ⟨p, hp⟩ : ∃ p, rightB f = p := ⟨_, rfl⟩
                                          rw [hp]
                                          rw [hp] at Hnext
                                          cases p with
                                          | false =>
                                            have Hr : Hid (parseH s.data.toList = (([], []), 2)) := Lib.hid (HG.out.2.1 (by rw [Hnext.out]; rfl))
                                            clear Hnext hp
                                            go_wp2
                                            go_ret3
                                            exact post_bad Hr.out (hbxw.trans (hbg.mono hbxw.size))
                                          | true =>
                                            have HRn : Hid (R = (fieldsH (joinH (ls.drop u))).map ((acc ++ [f]) ++ ·) ∧ (0 < u → goesH ((ls.drop u).headD []) = false)) := Lib.hid ⟨by
                                              rw [Hnext.out, if_pos rfl]
                                              show ((fieldsH (joinH (ls.drop u))).map (f :: ·)).map (acc ++ ·) = _
                                              cases fieldsH (joinH (ls.drop u)) <;> simp, Htog.out.2⟩
                                            have happ : FieldsOwn (wg.alloc (.cells #[.string N, .string D] 52)) w1.heap.size _ acc := World.ownsRow.alloc (ownsRow_below4 hown3 hbg) (.cells #[.string N, .string D] 52)
                                            have hhn := heap_alloc_new wg (.cells #[.string N, .string D] 52)
                                            have hzn := World.size_alloc wg (.cells #[.string N, .string D] 52)
                                            have y0 : (wg.alloc (.cells #[.string N, .string D] 52)).cell? ⟨wg.heap.size, 0, none⟩ = some (.string (textQ f.1)) := by rw [HN1.out]; exact Lib.cell_of_heap hhn 0
                                            have y1 : (wg.alloc (.cells #[.string N, .string D] 52)).cell? ⟨wg.heap.size, 1, none⟩ = some (.string (textQ f.2)) := by rw [HD1.out]; exact Lib.cell_of_heap hhn 1
                                            have hb1g : Below w1.heap.size w1 wg := hbx.trans (hbg.mono hbx.size)
                                            have hzw : w1.heap.size ≤ wg.heap.size := hb1g.size
                                            clear Hnext hp hhn
                                            go_wp2_with (first | (at_builtin; refine wpList_append_field rfl _ _ rfl w1.heap.size _ acc f rfl happ (by omega) (by omega) wg.heap.size 1 rfl y0 y1 ?_) | fail)
                                            intro v' w' hown' hg'
                                            have hb' : Below w1.heap.size w1 w' := (hb1g.alloc hzw (.cells #[.string N, .string D] 52)).grown hg' (by omega) fun q hk => (row_block happ hk).1
                                            clear happ y0 y1 hg'
                                            go_wp2
                                            go_roundw
                                            case rel => exact ⟨u, acc ++ [f], rfl, hu2, by rw [List.length_append]; simp; omega, HRn, hown', hb'⟩
                                            case measure => simp [intOf]; omega
                            · have q5 : ((T[c].toNat : Int) != 58) = true := by
                                rw [bne_iff_ne]
                                intro e
                                exact h58 (UInt8.toNat_inj.1 (by show _ = 58; omega))
                              have Hn3 : Hid (∀ j (hj : j < T.size), j < c + 1 → T[j] ≠ 58) := Lib.hid fun j hj h => by
                                rcases Nat.lt_or_ge j c with h2 | h2
                                · exact hno.out j hj h2
                                · obtain rfl : j = c := by omega
                                  exact h58
                              clear hno h58
                              go_wp2
                              go_round
                              case rel => exact ⟨c + 1, by omega, by go_num, Hn3⟩
                              case measure => simp [intOf]; omega
                          · obtain rfl : c = T.size := by omega
                            have Hr : Hid (parseH s.data.toList = (([], []), 2)) := Lib.hid (HG.out.2.1 (by
                              have h1 : fieldH T.data.toList = none := field_none (fun j hj => hno.out j hj hj)
                              rw [hst3.out.1, Htog.out.1, fieldsH_cons]
                              unfold rdP
                              rw [h1]
                              rfl))
                            have q6 : ((T.size : Int) == (T.size : Int)) = true := by simp
                            clear hno
                            go_wp2
                            go_ret3
                            exact post_bad Hr.out hbxw
              · obtain rfl : t = k := by omega
                have hRa : R = some acc := by
                  rw [hst3.out.1, List.drop_of_length_le (by rw [Hn.out]; exact Nat.le_refl _)]
                  simp [joinH, fieldsH]
                obtain ⟨ao3, cap3, rfl⟩ := row_slice hown3
                have HG2 := HG.out.2.2
                by_cases h64 : 64 < acc.length
                · have Hr := Lib.hid (HG2.1 acc hRa h64)
                  clear HG2 hst3 hRa
                  go_wp2
                  go_ret3
                  exact post_bad Hr.out hbxw
                · have Hr := Lib.hid (HG2.2 acc hRa h64)
                  have HE : Hid (s.extract fr s.size = textQ (s.data.toList.drop fr)) := Lib.hid (by
                    rw [cut_text, List.take_of_length_le (by rw [List.length_drop]; exact Nat.le_refl _)])
                  have x1 : (0 : Int) ≤ (fr : Int) := by omega
                  have x2 : (fr : Int) ≤ (s.size : Int) := by omega
                  clear HG2 hst3 hRa
                  go_wp2_with fail
                  go_quiet (fail)
                  have hbq := below_drewN (Below.refl wr.heap.size wr) nq
                  have hown4 := row_more (ownsRow_below4 hown3 hbq) hbz
                  have hbf := hbxw.trans (hbq.mono hbxw.size)
                  go_wp2
                  go_ret3
                  unfold ParsePost
                  rw [Hr.out]
                  exact ⟨_, by rw [HE.out]; rfl, hown4, hbf⟩
end Go.Proofs.YtidlpdiephlkhaaGreatDoor
