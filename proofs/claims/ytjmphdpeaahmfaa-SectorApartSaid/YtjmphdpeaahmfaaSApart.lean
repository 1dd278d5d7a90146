/-
  SectorApart returns true, for any acts, any place and any text: the walk.
-/
import Derived.Test.YtjmphdpeaahmfaaAwake7
import Derived.Test.YtjmphdpeaahmfaaFew7
import Derived.Test.YtjmphdpeaahmfaaEightS
import Derived.BigQuiet
namespace Go.Proofs.Ytjmphdpeaahmfaa
open Go.RowKit Go.Maps

/-- A text that was filled up: it begins with the text, and behind that stand bytes 0. -/
theorem fill_text (x : ByteArray) (h : x.size ≤ 64) : ∃ X : ByteArray, textD (fillD x.data.toList) = X ∧ X.size = 64 ∧ X.extract 0 x.size = x ∧ ∀ m (hm : m < X.size), x.size ≤ m → ((X[m]'hm).toNat : Int) = 0 := by
  have hl : x.data.toList.length = x.size := rfl
  refine ⟨_, rfl, by rw [text_size, fill_len (by omega)], ?_, fun m hm hx => ?_⟩
  · have e : (textD (fillD x.data.toList)).extract 0 x.size = textD ((fillD x.data.toList).take x.size) := ByteArray.ext (Array.ext' (by rw [Lib.extract_data]; rfl))
    rw [e]
    unfold fillD
    rw [← hl, List.take_left' rfl]
    rfl
  · have hm' : m < (x.data.toList ++ List.replicate (64 - x.data.toList.length) (0 : UInt8)).length := hm
    have e : (textD (fillD x.data.toList))[m]'hm = (x.data.toList ++ List.replicate (64 - x.data.toList.length) (0 : UInt8))[m]'hm' := rfl
    rw [e, List.getElem_append_right (by omega), List.getElem_replicate]
    rfl

set_option maxRecDepth 100000 in
set_option maxHeartbeats 4000000 in
theorem sapart_walk (n c : Nat) (A : Option Addr) (la : List ActS) (p : Int) (data : ByteArray) (w : World) (hA : Acts w A n la) (hds : data.size ≤ maxLen) :
    Calls Try.prog 5 #[.slice A n c, .int .i64 p, .string data] w fun e w' => e = .returned (.bool true) ∧ Below w.heap.size w w' := by
  have haw := awake7_any w
  unfold maxLen at hds
  have HA := Lib.hid hA
  go_enter Try.func5, Try.ntmps5
  go_wp2_with fail
  refine haw.mono ?_
  rintro e w1 ⟨rfl, hb1⟩
  clear haw
  have hfew := few7_any n c A la w1 (HA.out.below hb1 (Nat.le_refl _))
  have hln := hA.nil_len
  obtain ⟨fw, hfw⟩ : ∃ fw, fewA la = fw := ⟨_, rfl⟩
  rw [hfw] at hfew
  cases fw with
  | false =>
    have Hb := Lib.hid hb1
    clear hb1 hA
    go_wp2_with (go_at_call 8; refine hfew.mono ?_; rintro e w9 ⟨rfl, h9⟩; obtain rfl := h9.symm; clear h9)
    go_ret
    exact ⟨rfl, Hb.out⟩
  | true =>
    obtain ⟨hn200, hd500⟩ := fewA_true hfw
    by_cases hp0 : p < 0
    · have Hb := Lib.hid hb1
      clear hb1 hA
      go_wp2_with (go_at_call 8; refine hfew.mono ?_; rintro e w9 ⟨rfl, h9⟩; obtain rfl := h9.symm; clear h9)
      go_ret
      exact ⟨rfl, Hb.out⟩
    by_cases hp7 : 7 < p
    · have Hb := Lib.hid hb1
      clear hb1 hA
      go_wp2_with (go_at_call 8; refine hfew.mono ?_; rintro e w9 ⟨rfl, h9⟩; obtain rfl := h9.symm; clear h9)
      go_ret
      exact ⟨rfl, Hb.out⟩
    by_cases hlen : 64 < data.size
    · have Hb := Lib.hid hb1
      clear hb1 hA
      go_wp2_with (go_at_call 8; refine hfew.mono ?_; rintro e w9 ⟨rfl, h9⟩; obtain rfl := h9.symm; clear h9)
      go_ret
      exact ⟨rfl, Hb.out⟩
    obtain ⟨q, rfl⟩ : ∃ q : Nat, p = q := ⟨p.toNat, by omega⟩
    have hq : q < 8 := by omega
    have Hd500 := Lib.hid hd500
    clear hA hd500 hfw
    go_wp2_with (go_at_call 8; refine hfew.mono ?_; rintro e w9 ⟨rfl, h9⟩; obtain rfl := h9.symm; clear h9)
    clear hfew
    refine (snew_any w.heap.size w1 hb1.size 8 (by omega) (by omega)).mono ?_
    rintro e w2 ⟨N, g, rfl, hD2, hb2, _⟩
    have hB2 := hb1.trans (hb2.mono hb1.size)
    clear hb1 hb2
    go_wp2_with fail
    go_loopw [9] (fun iv W => ∃ (i : Nat) (ss : List (List UInt8)) (x : Int), i ≤ n ∧ iv = .int .i64 i ∧ ss.length = 8 ∧ 0 ≤ x ∧ x ≤ i ∧ DiskAt W w.heap.size N g ⟨ss, 0, 0, false, x, 0⟩ ∧ Below w.heap.size w W) (fun iv _ => n - (intOf iv).toNat)
    case atStart => exact ⟨0, _, 0, by omega, rfl, rfl, by omega, by omega, hD2, hB2⟩
    case round =>
      clear hD2 hB2
      obtain ⟨i, ss, x, hi1, rfl, hss, hx0, hx1, hD, hB⟩ := hrel
      by_cases hlt : i < n
      · obtain ⟨b, off, hl, rfl, hbl, a0, a1, a2, _, _⟩ := (HA.out.below hB (Nat.le_refl _)).at_ hlt
        have hd5 := Hd500.out _ (List.getElem_mem hl)
        by_cases hk : la[i].kind = 0
        · have hk2 : (la[i].kind == 0) = true := by rw [beq_iff_eq]; exact hk
          have hwr := swrite_any w.heap.size N g _ wr.drew hD.drew hB.size (show x ≤ 1000000 by omega) la[i].pos la[i].data (by unfold maxLen; omega)
          have hDB := Lib.hid (And.intro hD.drew (below_drewN hB 1))
          obtain ⟨ss', x', e1, e2, e3, e4⟩ := write_plain ss x hx0 la[i].pos la[i].data.data.toList
          rw [e1] at hwr
          clear hD hB hk
          go_wp2_with fail
          go_still_tail 11, (by kernel_rfl)
          change wpList _ _ _ _ _ wr.drew
          go_wp2_with fail
          refine hwr.mono ?_
          rintro e w4 ⟨rfl, hD4, t4⟩
          have hB4 := hDB.out.1.turned_below hDB.out.2 t4
          have H4 := Lib.hid (And.intro hD4 hB4)
          clear hD4 hB4 t4 hwr hDB e1
          go_wp2
          go_roundw
          case rel => exact ⟨i + 1, ss', x', by omega, by go_num, by omega, by omega, by omega, H4.out.1, H4.out.2⟩
          case measure => simp [intOf]; omega
        · have hk2 : (la[i].kind == 0) = false := by rw [beq_eq_false_iff_ne]; exact hk
          have H4 := Lib.hid (And.intro hD hB)
          clear hD hB hk
          go_wp2
          go_roundw
          case rel => exact ⟨i + 1, ss, x, by omega, by go_num, hss, hx0, by omega, H4.out.1, H4.out.2⟩
          case measure => simp [intOf]; omega
      · obtain rfl : i = n := by omega
        clear HA Hd500
        have hE5 : EightS (wr.alloc (.cells #[.string ⟨#[]⟩, .string ⟨#[]⟩, .string ⟨#[]⟩, .string ⟨#[]⟩, .string ⟨#[]⟩, .string ⟨#[]⟩, .string ⟨#[]⟩, .string ⟨#[]⟩] 50)) wr.heap.size ss 0 := eight_new
        have hD5 := hD.alloc (.cells #[.string ⟨#[]⟩, .string ⟨#[]⟩, .string ⟨#[]⟩, .string ⟨#[]⟩, .string ⟨#[]⟩, .string ⟨#[]⟩, .string ⟨#[]⟩, .string ⟨#[]⟩] 50)
        have hB5 := hB.alloc hB.size (.cells #[.string ⟨#[]⟩, .string ⟨#[]⟩, .string ⟨#[]⟩, .string ⟨#[]⟩, .string ⟨#[]⟩, .string ⟨#[]⟩, .string ⟨#[]⟩, .string ⟨#[]⟩] 50)
        have hu : ∀ b, mineD N g b → b ≠ wr.heap.size := fun b hb e => by
          have := (hD.blocks b hb).2
          omega
        have hwu := hB.size
        have Hu := Lib.hid hu
        have HE := Lib.hid (And.intro hE5 (And.intro hD5 hB5))
        clear hE5 hD5 hB5 hu hD hB
        go_wp2_with fail
        obtain ⟨hE5, hD5, hB5⟩ := HE.out
        generalize wr.alloc (.cells #[.string ⟨#[]⟩, .string ⟨#[]⟩, .string ⟨#[]⟩, .string ⟨#[]⟩, .string ⟨#[]⟩, .string ⟨#[]⟩, .string ⟨#[]⟩, .string ⟨#[]⟩] 50) = w5 at hE5 hD5 hB5 ⊢
        generalize wr.heap.size = u at hE5 Hu hwu ⊢
        clear HE
        go_loopw [11] (fun jv W => ∃ j : Nat, j ≤ 8 ∧ jv = .int .i64 j ∧ EightS W u ss j ∧ DiskAt W w.heap.size N g ⟨ss, 0, 0, false, x, 0⟩ ∧ Below w.heap.size w W) (fun jv _ => 8 - (intOf jv).toNat)
        case atStart => exact ⟨0, by omega, rfl, hE5, hD5, hB5⟩
        case round =>
          clear hE5 hD5 hB5
          obtain ⟨j, hj, rfl, hE, hD, hB⟩ := hrel
          by_cases hj8 : j < 8
          · have hr := sread_ok _ N g _ _ hD rfl j (show j < ss.length by omega)
            obtain ⟨t, k1, k2, _⟩ := hE.cell hj8
            have k3 : (0 : Int) ≤ (j : Int) := by omega
            have k4 : (j : Int) < 8 := by omega
            have hX : textD (ss[j]'(by omega)) = textD (ss.getD j []) := by rw [List.getD_eq_getElem?_getD, List.getElem?_eq_getElem (by omega), Option.getD_some]
            obtain ⟨X, hXX⟩ : ∃ X, textD (ss[j]'(by omega)) = X := ⟨_, rfl⟩
            rw [hXX] at hX hr
            have hE2 := hE.set hX
            have hD2 := hD.keep (Turned.set (S := fun b => b = u) (j := j) (N := u) (v := .string X) rfl) (fun b hb e => Hu.out b hb e)
            have hB2 := hB.setCell (p := ⟨u, j, none⟩) hwu (.string X)
            have H2 := Lib.hid (And.intro hE2 (And.intro hD2 hB2))
            clear hE hD hB hX hXX hE2 hD2 hB2
            go_wp2_with (go_at_call 13; refine hr.mono ?_; rintro e w9 ⟨rfl, h9⟩; obtain rfl := h9.symm; clear h9)
            go_roundw
            case rel => exact ⟨j + 1, by omega, by go_num, H2.out.1, H2.out.2.1, H2.out.2.2⟩
            case measure => simp [intOf]; omega
          · obtain rfl : j = 8 := by omega
            have hn := writes_any _ _ _ _ _ hD
            have hchk : checkD ⟨ss, 0, 0, false, x, 0⟩ (q : Int) = 0 := check_zero.2 ⟨rfl, by omega, by show (q : Int) < ss.length; omega⟩
            have hdl : data.data.toList.length ≤ 64 := by
              have : data.data.toList.length = data.size := rfl
              omega
            have hwr := swrite_any _ _ _ _ _ hD hB.size (show x ≤ 1000000 by omega) q data (by unfold maxLen; omega)
            obtain ⟨e1, e2⟩ := write_miss hchk hdl (show ¬ x + 1 - 0 = 0 by omega)
            rw [e1, e2] at hwr
            have HDr := Lib.hid (And.intro hD (And.intro hB hE))
            have Hdl := Lib.hid hdl
            clear hD hB hE hchk e1 e2 hdl
            go_wp2_with (go_at_call 21; refine hn.mono ?_; rintro e w9 ⟨rfl, h9⟩; obtain rfl := h9.symm; clear h9)
            clear hn
            refine hwr.mono ?_
            rintro e w6 ⟨rfl, hD6, t6⟩
            have hB6 := HDr.out.1.turned_below HDr.out.2.1 t6
            have hE6 := HDr.out.2.2.keep t6 (fun e => Hu.out u e rfl)
            obtain ⟨s6, hs6, hD6⟩ : ∃ s6 : List (List UInt8), Hid (s6 = ss.set q (fillD data.data.toList)) ∧ DiskAt w6 w.heap.size N g ⟨s6, 0, 0, false, x + 1, 0⟩ := ⟨_, Lib.hid (by rw [Int.toNat_natCast]), hD6⟩
            have hn := writes_any _ _ _ _ _ hD6
            have H6 := Lib.hid (And.intro hD6 (And.intro hB6 hE6))
            clear hwr HDr t6 hD6 hB6 hE6
            go_wp2_with (go_at_call 21; refine hn.mono ?_; rintro e w9 ⟨rfl, h9⟩; obtain rfl := h9.symm; clear h9)
            clear hn
            obtain ⟨hD6, hB6, hE6⟩ := H6.out
            have hs6l : s6.length = 8 := by rw [hs6.out, List.length_set]; exact hss
            clear H6
            go_loopw [13, 14, 15, 16] (fun kv _ _ _ W => ∃ k : Nat, k ≤ 8 ∧ kv = .int .i64 k ∧ EightS W u ss 8 ∧ DiskAt W w.heap.size N g ⟨s6, 0, 0, false, x + 1, 0⟩ ∧ Below w.heap.size w W) (fun kv _ _ _ _ => 8 - (intOf kv).toNat)
            case atStart => exact ⟨0, by omega, rfl, hE6, hD6, hB6⟩
            case round =>
              clear hE6 hD6 hB6
              obtain ⟨k, hk, rfl, hE, hD, hB⟩ := hrel
              by_cases hk8 : k < 8
              · have hr := sread_ok _ N g _ _ hD rfl k (show k < s6.length by omega)
                obtain ⟨t, k1, _, k2⟩ := hE.cell hk8
                have k3 : (0 : Int) ≤ (k : Int) := by omega
                have k4 : (k : Int) < 8 := by omega
                have hl64 : (textD (s6[k]'(by omega))).size = 64 := by
                  rw [text_size]
                  exact hD.ok.ss.get (by show k < s6.length; omega)
                have hrow : s6[k]'(by omega) = if q = k then fillD data.data.toList else ss[k]'(by omega) := by
                  have : ∀ (l : List (List UInt8)) (hl : k < l.length), l = ss.set q (fillD data.data.toList) → l[k] = if q = k then fillD data.data.toList else ss[k]'(by omega) := fun l hl e => by
                    subst e
                    rw [List.getElem_set]
                  exact this s6 (by omega) hs6.out
                have HH := Lib.hid (And.intro hD (And.intro hB hE))
                by_cases hkq : k = q
                · subst hkq
                  rw [if_pos rfl] at hrow
                  rw [hrow] at hr hl64
                  obtain ⟨X, hX, hXs, hXe, hX0⟩ := fill_text data (by omega)
                  rw [hX] at hr
                  have HX0 := Lib.hid hX0
                  have hXn : data.size ≤ X.size := by omega
                  clear hrow hl64 hX hX0 hE hD hB k2 hD6
                  go_wp2_with (go_at_call 13; refine hr.mono ?_; rintro e w9 ⟨rfl, h9⟩; obtain rfl := h9.symm; clear h9)
                  have HXs := Lib.hid hXs
                  clear hr k1 hXe hXs
                  go_loopw [16] (fun mv W => ∃ m : Nat, data.size ≤ m ∧ m ≤ 64 ∧ mv = .int .i64 (m : Int) ∧ DiskAt W w.heap.size N g ⟨s6, 0, 0, false, x + 1, 0⟩ ∧ Below w.heap.size w W ∧ EightS W u ss 8) (fun mv _ => 64 - (intOf mv).toNat)
                  case atStart => exact ⟨data.size, by omega, by omega, rfl, HH.out.1, HH.out.2.1, HH.out.2.2⟩
                  case round =>
                    obtain ⟨m, hm1, hm2, rfl, h1, h2, h3⟩ := hrel
                    have H1 := Lib.hid (And.intro h1 (And.intro h2 h3))
                    clear h1 h2 h3 HH
                    by_cases hm64 : m < 64
                    · have hmX : m < X.size := by rw [HXs.out]; exact hm64
                      have hX0 := HX0.out m hmX hm1
                      go_wp2
                      go_roundw
                      case rel => exact ⟨m + 1, by omega, by omega, by go_num, H1.out.1, H1.out.2.1, H1.out.2.2⟩
                      case measure => simp [intOf]; omega
                    · obtain rfl : m = 64 := by omega
                      go_wp2
                      go_roundw
                      case rel => exact ⟨k + 1, by omega, by go_num, H1.out.2.2, H1.out.1, H1.out.2.1⟩
                      case measure => simp [intOf]; omega
                · have hkb : ((k : Int) == (q : Int)) = false := by rw [beq_eq_false_iff_ne]; omega
                  have hkb2 : ((k : Int) != (q : Int)) = true := by rw [bne_iff_ne]; omega
                  rw [if_neg (fun e => hkq e.symm)] at hrow
                  rw [hrow] at hr hl64
                  have htX : t = textD (ss[k]'(by omega)) := by rw [k2 hk8, List.getD_eq_getElem?_getD, List.getElem?_eq_getElem (by omega), Option.getD_some]
                  rw [← htX] at hr hl64
                  clear hrow htX k2 hkq hE hD hB
                  go_wp2_with (go_at_call 13; refine hr.mono ?_; rintro e w9 ⟨rfl, h9⟩; obtain rfl := h9.symm; clear h9)
                  clear hr k1
                  go_loopw [16] (fun mv W => mv = .int .i64 (data.size : Int) ∧ DiskAt W w.heap.size N g ⟨s6, 0, 0, false, x + 1, 0⟩ ∧ Below w.heap.size w W ∧ EightS W u ss 8) (fun _ _ => 0)
                  case atStart => exact ⟨rfl, HH.out.1, HH.out.2.1, HH.out.2.2⟩
                  case round =>
                    obtain ⟨rfl, h1, h2, h3⟩ := hrel
                    have H1 := Lib.hid (And.intro h1 (And.intro h2 h3))
                    clear h1 h2 h3 HH
                    go_wp2
                    go_roundw
                    case rel => exact ⟨k + 1, by omega, by go_num, H1.out.2.2, H1.out.1, H1.out.2.1⟩
                    case measure => simp [intOf]; omega
              · obtain rfl : k = 8 := by omega
                have Hb := Lib.hid hB
                clear hE hD hB
                go_wp2
                go_ret
                exact ⟨rfl, Hb.out⟩
end Go.Proofs.Ytjmphdpeaahmfaa
