/-
  SpoolNumbers returns true, for any rows of items of which none is too long: the walk.
-/
import Derived.Test.YtgpdplffljidbaaGreatDoorZWkApa
import Derived.Test.YtgpdplffljidbaaGreatDoorZ41
import Derived.BigQuiet
namespace Go.Proofs.YtgpdplffljidbaaGreatDoor
open Go.RowKit Go.Maps

def sumN : List (List ItemS) → Nat
  | [] => 0
  | l :: ls => 1 + l.length + sumN ls
theorem sumN_append : ∀ a b : List (List ItemS), sumN (a ++ b) = sumN a + sumN b
  | [], b => by simp [sumN]
  | l :: a, b => by rw [List.cons_append, sumN, sumN, sumN_append a b]; omega
theorem sumN_take (ls : List (List ItemS)) (i : Nat) (h : i < ls.length) : sumN (ls.take (i + 1)) = sumN (ls.take i) + 1 + ls[i].length := by
  rw [List.take_succ_eq_append_getElem h, sumN_append]
  simp [sumN]
  omega
theorem sumN_le (ls : List (List ItemS)) (i : Nat) : sumN (ls.take i) ≤ sumN ls := by
  conv => rhs; rw [← List.take_append_drop i ls, sumN_append]
  omega
theorem sumN_len : ∀ ls : List (List ItemS), ls.length ≤ sumN ls
  | [] => by simp [sumN]
  | l :: ls => by
    have := sumN_len ls
    rw [sumN, List.length_cons]
    omega
theorem ItemRows.cell {w W : World} {B : Nat} {ao : Option Addr} {k cap : Nat} {ls : List (List ItemS)} (h : ItemRows w B (.slice ao k cap) ls) (hb : Below w.heap.size w W) (hB : B ≤ w.heap.size) {i : Nat} (hi : i < ls.length) : ∃ g off ai ci, ao = some ⟨g, off, none⟩ ∧
    W.cell? ⟨g, off + i, none⟩ = some (.slice ai ls[i].length ci) ∧ ls[i].length ≤ ci ∧ ci ≤ maxLen ∧ ItemsAt W w.heap.size (.slice ai ls[i].length ci) ls[i] := by
  obtain ⟨ao2, cap2, e, h1, h2, h3⟩ := h
  injection e with e1 e2 e3
  subst e1
  obtain ⟨g, off, v', rfl, hg, hc, hat⟩ := h3 i hi
  obtain ⟨ai, ci, rfl, hl, hm⟩ := hat.slice
  exact ⟨g, off, ai, ci, rfl, (hb.cell (p := ⟨g, off + i, none⟩) (by show g < w.heap.size; omega)).trans hc, hl, hm, (hat.below hb hB).up hB⟩

set_option maxRecDepth 100000 in
set_option maxHeartbeats 16000000 in
theorem wnum_walk (v : Value) (ls : List (List ItemS)) (A : Option Addr) (nd capd : Nat) (w : World) (hp : PowIs w) (hl : ItemRows w w.heap.size v ls) (hls : ls.length ≤ 1048576) (hin : ∀ l ∈ ls, l.length ≤ 1048576) (hu : Smalls8 w A nd) (_hdc : nd ≤ capd) (_hdm : capd ≤ maxLen) :
    Calls Tryz.prog 4 #[v, .slice A nd capd] w fun e w' => e = .returned (.bool true) ∧ Below w.heap.size w w' := by
  have haw := awake16_any w hp
  have hl' := hl
  obtain ⟨ao, cap, rfl, hc1, hc2, _⟩ := hl'
  have hat : Hid (∀ W, Below w.heap.size w W → ∀ i (hi : i < ls.length), ∃ g off ai ci, ao = some ⟨g, off, none⟩ ∧
    W.cell? ⟨g, off + i, none⟩ = some (.slice ai ls[i].length ci) ∧ ls[i].length ≤ ci ∧ ci ≤ maxLen ∧ ItemsAt W w.heap.size (.slice ai ls[i].length ci) ls[i]) := Lib.hid fun W hW i hi => hl.cell hW (Nat.le_refl _) hi
  have HP := Lib.hid (And.intro hp (And.intro hu hin))
  obtain ⟨n, hn⟩ : ∃ n, ls.length = n := ⟨_, rfl⟩
  have Hn := Lib.hid hn
  unfold maxLen at hc2 _hdm
  rw [hn] at hc1 hls ⊢
  clear hl hp hn hu hin
  go_enter Tryz.func4, Tryz.ntmps4
  go_wp2_with fail
  refine haw.mono ?_
  rintro e w1 ⟨rfl, hb1⟩
  have B1 := Lib.hid hb1
  clear haw hb1
  go_wp2
  go_loopw [5, 6] (fun mv iv wr => ∃ i m : Nat, i ≤ n ∧ iv = .int .i64 i ∧ mv = .int .i64 m ∧ m ≤ 1048577 * i ∧ Hid (wr = w1 ∧ m = sumN (ls.take i) ∧ ∀ j (hj : j < ls.length), j < i → ∀ x ∈ ls[j], x.tx.length ≤ 500)) (fun _ iv _ => n - (intOf iv).toNat)
  case atStart => exact ⟨0, 0, by omega, rfl, rfl, by omega, Lib.hid ⟨rfl, rfl, fun j hj h0 => by omega⟩⟩
  case round =>
    obtain ⟨i, m, hi, rfl, rfl, hmi, hk⟩ := hrel
    obtain ⟨hwr, _⟩ := hk.out
    subst hwr
    by_cases hlt : i < n
    · have hil : i < ls.length := by rw [Hn.out]; exact hlt
      obtain ⟨g, off, ai, ci, rfl, hcl, hi1, hi2, hia⟩ := hat.out wr B1.out i hil
      have hli : ls[i].length ≤ 1048576 := HP.out.2.2 _ (List.getElem_mem hil)
      have hst := sumN_take ls i hil
      obtain ⟨li, hli2⟩ : ∃ li, ls[i] = li := ⟨_, rfl⟩
      have HI := Lib.hid (show ∀ h : i < ls.length, ls[i]'h = li from fun _ => hli2)
      rw [hli2] at hcl hi1 hli hst hia
      obtain ⟨k, hkl⟩ : ∃ k, li.length = k := ⟨_, rfl⟩
      rw [hkl] at hcl hi1 hli hst hia
      unfold maxLen at hi2
      have hmm : m + 1 + k ≤ 1048577 * (i + 1) := by omega
      have HS := Lib.hid (And.intro hk.out.2.1 (And.intro hst (And.intro hkl (And.intro hia hk.out.2.2))))
      obtain ⟨w2, rfl⟩ : ∃ w2, w2 = wr := ⟨wr, rfl⟩
      clear hli2 hst hkl hia hk hil
      go_wp2
      go_loopw [7] (fun jv wr => ∃ j : Nat, j ≤ k ∧ jv = .int .i64 j ∧ Hid (wr = w2 ∧ ∀ q (hq : q < li.length), q < j → li[q].tx.length ≤ 500)) (fun jv _ => k - (intOf jv).toNat)
      case atStart => exact ⟨0, by omega, rfl, Lib.hid ⟨by first | rfl | trivial, fun q hq h0 => by omega⟩⟩
      case round =>
        obtain ⟨j, hj, rfl, hk2⟩ := hrel
        obtain ⟨hwr, _⟩ := hk2.out
        subst hwr
        by_cases hlt2 : j < k
        · have hjl : j < li.length := by rw [HS.out.2.2.1]; exact hlt2
          obtain ⟨_, _, e, _, _, hcc⟩ := HS.out.2.2.2.1
          injection e with e1 e2 e3
          subst e1 e3
          obtain ⟨gi, oi, rfl, _, hx⟩ := hcc j hjl
          have y3 : wr.cell? ⟨gi, oi + j * 7 + 3, none⟩ = some (.string (textQ li[j].tx)) := hx 3 (by omega)
          obtain ⟨X, hX⟩ : ∃ X, textQ li[j].tx = X := ⟨_, rfl⟩
          rw [hX] at y3
          have hXs : X.size = li[j].tx.length := by rw [← hX]; rfl
          clear hX hcc hx e2
          by_cases hbig : 500 < X.size
          · have Fin := B1
            clear hXs
            go_wp2
            go_ret
            exact ⟨rfl, Fin.out⟩
          · have K3 := Lib.hid (show ∀ q (hq : q < li.length), q < j + 1 → li[q].tx.length ≤ 500 from fun q hq hqj => by
              rcases Nat.lt_or_ge q j with h | h
              · exact hk2.out.2 q hq h
              · obtain rfl : q = j := by omega
                omega)
            clear hXs hk2
            go_wp2
            go_roundw
            case rel => exact ⟨j + 1, by omega, by go_num, Lib.hid ⟨by first | rfl | trivial, K3.out⟩⟩
            case measure => simp [intOf]; omega
        · obtain rfl : j = k := by omega
          have K4 : Hid (m + 1 + j = sumN (ls.take (i + 1)) ∧ ∀ q (hq : q < ls.length), q < i + 1 → ∀ x ∈ ls[q], x.tx.length ≤ 500) := Lib.hid ⟨by rw [HS.out.2.1, HS.out.1], fun q hq hqi x hx => by
            rcases Nat.lt_or_ge q i with h | h
            · exact HS.out.2.2.2.2 q hq h x hx
            · obtain rfl : q = i := by omega
              rw [HI.out _] at hx
              obtain ⟨z, hz, rfl⟩ := List.getElem_of_mem hx
              exact hk2.out.2 z hz (by rw [← HS.out.2.2.1]; exact hz)⟩
          clear hk2 HS HI
          go_wp2
          go_roundw
          case rel => exact ⟨i + 1, m + 1 + j, by omega, by go_num, by go_num, hmm, Lib.hid ⟨by first | rfl | trivial, K4.out⟩⟩
          case measure => simp [intOf]; omega
    · obtain rfl : i = n := by omega
      obtain ⟨hm, htx⟩ := hk.out.2
      rw [List.take_of_length_le (by rw [Hn.out]; exact Nat.le_refl _)] at hm
      have HM := Lib.hid (And.intro hm (fun l hl x hx => by
        obtain ⟨j, hj, rfl⟩ := List.getElem_of_mem hl
        exact htx j hj (by rw [← Hn.out]; exact hj) x hx : ∀ l ∈ ls, ∀ x ∈ l, x.tx.length ≤ 500))
      obtain ⟨w2, rfl⟩ : ∃ w2, w2 = wr := ⟨wr, rfl⟩
      clear hk hm htx
      by_cases h60 : 60 < m
      · have Fin := B1
        go_wp2
        go_ret
        exact ⟨rfl, Fin.out⟩
      · have hmade := made_any 4096 (by omega) (by omega) (by omega) w2
        go_wp2_with fail
        refine hmade.mono ?_
        rintro e w3 ⟨N, Nd, g, d, rfl, hs, _, hb3⟩
        have hs : StoreG w3 w2.heap.size N Nd g 0 2048 1 0 d [] := hs
        have q3 : LawQ w2 w3 N Nd g 2048 1 0 d [] [] 0 := lawq_new hs hb3 (pow_below HP.out.1 B1.out)
        have hlt := hs.ltN
        have K3 := Lib.hid q3
        have HN := Lib.hid (show N < w3.heap.size ∧ (∀ b, mineD Nd g b → b < w3.heap.size) ∧ w2.heap.size ≤ w3.heap.size from ⟨hlt.1, fun b hb => (hlt.2.2 b hb).2, hb3.size⟩)
        clear hmade hs hlt hb3 q3
        go_wp2
        go_loopw [10, 11] (fun lv iv wr => ∃ (j la u c : Nat) (d : Dk) (ps : List PairP) (lq : List ItemS), j ≤ i ∧ iv = .int .i64 j ∧ lv = .int .i64 la ∧ Hid (LawQ w2 wr N Nd g 2048 u c d ps lq la ∧ c ≤ 2 * j ∧ lq.length ≤ la ∧ la ≤ sumN (ls.take j)) ∧ Hid (w3.heap.size ≤ wr.heap.size)) (fun _ iv _ => i - (intOf iv).toNat)
        case atStart => exact ⟨0, 0, _, _, _, _, _, by omega, rfl, rfl, Lib.hid ⟨K3.out, Nat.le_refl _, Nat.le_refl _, Nat.zero_le _⟩, Lib.hid (Nat.le_refl _)⟩
        case round =>
          clear K3
          obtain ⟨j, la, u, c, d, ps, lq, hj, rfl, rfl, hk, hsz3⟩ := hrel
          by_cases hlt : j < i
          · have hil : j < ls.length := by rw [Hn.out]; exact hlt
            have hbw : Below w.heap.size w wr := B1.out.trans (hk.out.1.s.lo.mono B1.out.size)
            obtain ⟨gr, offr, ai, ci, rfl, hcl, hi1, hi2, hia⟩ := hat.out wr hbw j hil
            have hst := sumN_take ls j hil
            have hle := sumN_le ls (j + 1)
            rw [← HM.out.1] at hle
            have htx := HM.out.2 _ (List.getElem_mem hil)
            obtain ⟨li, hli2⟩ : ∃ li, ls[j] = li := ⟨_, rfl⟩
            have HI := Lib.hid (show ∀ h : j < ls.length, ls[j]'h = li from fun _ => hli2)
            rw [hli2] at hcl hi1 hst hia htx
            obtain ⟨k, hkl⟩ : ∃ k, li.length = k := ⟨_, rfl⟩
            rw [hkl] at hcl hi1 hst hia
            unfold maxLen at hi2
            have hj60 : j ≤ 60 := by
              have h1 := sumN_len (ls.take j)
              rw [List.length_take] at h1
              have := Hn.out
              omega
            have hla6 : la + k ≤ 60 := by have := hk.out.2.2.2; omega
            have hla : la + k + j + 1 ≤ 130 := by omega
            have HS := Lib.hid (And.intro hst (And.intro hkl (And.intro hia (And.intro htx hbw))))
            have HW : Hid (∀ W, Below wr.heap.size wr W → W.cell? ⟨gr, offr + j, none⟩ = some (.slice ai k ci) ∧ ItemsAt W w.heap.size (.slice ai k ci) li) := Lib.hid fun W hW => by
              obtain ⟨g2, off2, ai2, ci2, e, hcl2, _, _, hia2⟩ := hat.out W (hbw.trans (hW.mono hbw.size)) j hil
              rw [hli2, hkl] at hcl2 hia2
              injection e with e
              injection e with e1 e2 e3
              subst e1 e2
              have h3 := hW.cell (p := ⟨gr, offr + j, none⟩) (World.block_lt_of_cell? wr ⟨gr, offr + j, none⟩ hcl)
              rw [hcl2, hcl] at h3
              injection h3 with h3
              injection h3 with h4 h5 h6
              subst h4 h6
              exact ⟨hcl2, hia2⟩
            clear hli2 hst hle htx hkl hil
            by_cases hr : ∀ x ∈ li, rightS x = true
            case neg =>
              have hadd := sadd_bad wr (.pointer (some ⟨N, 0, none⟩)) _ _ li hia hbw.size (by
                obtain ⟨x, hx⟩ := Classical.not_forall.1 hr
                obtain ⟨hx, hx2⟩ := Classical.not_imp.1 hx
                exact ⟨x, hx, by rw [Bool.not_eq_true] at hx2; exact hx2⟩)
              clear hia hr hbw
              go_wp2_with fail
              refine hadd.mono ?_
              rintro e w4 ⟨rfl, hb4⟩
              have K4 := Lib.hid (And.intro (hk.out.1.below hb4) (And.intro (show c ≤ 2 * (j + 1) by have := hk.out.2.1; omega) (And.intro hk.out.2.2.1 (show la ≤ sumN (ls.take (j + 1)) by have := hk.out.2.2.2; have := HS.out.1; omega))))
              have Z4 : Hid (w3.heap.size ≤ w4.heap.size) := Lib.hid (Nat.le_trans hsz3.out hb4.size)
              clear hadd hb4 hk HS hcl HI HW
              go_wp2
              go_roundw
              case rel => exact ⟨j + 1, la, u, c, d, ps, lq, by omega, by go_num, rfl, K4, Z4⟩
              case measure => simp [intOf]; omega
            case pos =>
              have hlk := HS.out.2.1
              have hadd := lawq_add hk.out.1 _ _ li hia hbw.size hr (by omega)
              have HR := Lib.hid hr
              obtain ⟨a, ha⟩ : ∃ a, lq.length = a := ⟨_, rfl⟩
              have haa : a ≤ la := by rw [← ha]; exact hk.out.2.2.1
              have HA := Lib.hid ha
              clear hia hr ha hlk hbw
              go_wp2_with fail
              refine hadd.mono ?_
              rintro e w4 ⟨ao4, n4, cap4, rfl, hn4, ho4, hb4⟩
              have q4 := hk.out.1.below hb4
              have hls : Calls Tryz.prog 19 #[.pointer (some ⟨N, 0, none⟩)] w4 fun e w' => ∃ ao cap, e = .returned (.slice ao a cap) ∧ Below w4.heap.size w4 w' := (lawq_list q4 (by have := hk.out.2.1; omega) (by rw [HA.out]; omega)).mono fun e w' ⟨v, h1, h2, h3⟩ => by
                unfold ItemsOwn at h2
                rw [HA.out] at h2
                obtain ⟨ao, cap, rfl⟩ := row_slice h2
                exact ⟨ao, cap, h1, h3⟩
              have K4 := Lib.hid (And.intro q4 (And.intro ho4 hb4))
              clear hadd hn4 ho4 hb4 q4
              go_wp2_with fail
              refine hls.mono ?_
              rintro e w5 ⟨ao5, cap5, rfl, hb5⟩
              have q5 := K4.out.1.below hb5
              have o5 := (Turned.of_below (S := fun _ => False) hb5 (Nat.le_refl _)).row K4.out.2.1 (fun _ _ h => h)
              have hlk := HS.out.2.1
              have hby := bytes_few HR.out HS.out.2.2.2.1
              have hsz := add_size li la (by omega)
              have hfit := add_fits (l := li) (last := la) (by omega) HR.out
              have hput := lawq_put q5 (by have := hk.out.2.1; omega) wr.heap.size _ (addS la li) o5 (by have := HN.out.1; have := hsz3.out; omega) (fun b hb => by have := HN.out.2.1 b hb; have := hsz3.out; omega) (Nat.le_trans (add_len _ _) (by omega)) (by omega)
              have hb45 := K4.out.2.2.trans (hb5.mono K4.out.2.2.size)
              have hqa := queue_add q5.q li HR.out (by omega)
              rcases commit_ends (h := 2048) (used := u) (ps := ps) hfit with ⟨h0, hps⟩ | hne
              case inr =>
                obtain ⟨co, hco⟩ : ∃ co, (commitP 2048 (u, ps) (addS la li)).2 = co := ⟨_, rfl⟩
                rw [hco] at hput hne
                clear hls hb5 q5 o5 hlk hby hsz hfit hqa hco hb45
                go_wp2_with fail
                refine hput.mono ?_
                rintro e w6 ⟨d6, rfl, hl6, _, _⟩
                have Fin := Lib.hid (B1.out.trans (hl6.lo.mono B1.out.size))
                clear hput hl6
                go_wp2
                go_ret
                exact ⟨rfl, Fin.out⟩
              case inl =>
                rw [h0, hps] at hput
                obtain ⟨u6, hu6⟩ : ∃ u6, (commitP 2048 (u, ps) (addS la li)).1.1 = u6 := ⟨_, rfl⟩
                obtain ⟨p6, hp6⟩ : ∃ p6, behindP ps (addS la li) = p6 := ⟨_, rfl⟩
                rw [hu6, hp6] at hput
                rw [hp6, hlk] at hqa
                have HQ := Lib.hid (And.intro hqa hb45)
                clear hls hb5 q5 o5 hlk hby hsz hfit hqa h0 hps hu6 hp6 hb45
                go_wp2_with fail
                refine hput.mono ?_
                rintro e w6 ⟨d6, rfl, hl6, _, ht6⟩
                have q6 : LawQ w2 w6 N Nd g 2048 u6 (c + 1) d6 p6 (lq ++ nextS la li) (la + k) := ⟨hl6, HQ.out.1, K4.out.1.pw⟩
                obtain ⟨b, hb⟩ : ∃ b, a + k = b := ⟨_, rfl⟩
                have hL2 : (lq ++ nextS la li).length = b := by rw [List.length_append, next_len, HA.out, HS.out.2.1, hb]
                have hls : Calls Tryz.prog 19 #[.pointer (some ⟨N, 0, none⟩)] w6 fun e w' => ∃ ao cap, e = .returned (.slice ao b cap) ∧ Hid (ItemsOwn w' w6.heap.size (.slice ao b cap) (lq ++ nextS la li)) ∧ Below w6.heap.size w6 w' := (lawq_list q6 (by have := hk.out.2.1; omega) (by rw [hL2]; omega)).mono fun e w' ⟨v, h1, h2, h3⟩ => by
                  have h4 := h2
                  unfold ItemsOwn at h4
                  rw [hL2] at h4
                  obtain ⟨ao, cap, rfl⟩ := row_slice h4
                  exact ⟨ao, cap, h1, Lib.hid h2, h3⟩
                have hbk : (a : Int) + (k : Int) = (b : Int) := by omega
                have hbk2 : a + k ≤ 60 := by omega
                have T6 := Lib.hid (And.intro ht6 (And.intro hb hL2))
                have K6 := Lib.hid (And.intro q6 hb)
                clear hput hl6 ht6 q6 hb hL2
                go_wp2_with fail
                refine hls.mono ?_
                rintro e w7 ⟨ao7, cap7, rfl, ho7, hb7⟩
                have K7 := Lib.hid (And.intro (K6.out.1.below hb7) (And.intro ho7.out hb7.size))
                have hbw7 : Below w.heap.size w w7 := B1.out.trans (K7.out.1.s.lo.mono B1.out.size)
                have HB7 := Lib.hid hbw7
                have hil : j < ls.length := by rw [Hn.out]; exact hlt
                have hcs : Hid (∀ W, Below w.heap.size w W → ∃ ai ci, W.cell? ⟨gr, offr + j, none⟩ = some (.slice ai k ci) ∧ k ≤ ci ∧ ci ≤ maxLen ∧ ItemsAt W w.heap.size (.slice ai k ci) li) := Lib.hid fun W hW => by
                  obtain ⟨g2, off2, ai2, ci2, e, h1, h2, h3, h4⟩ := hat.out W hW j hil
                  rw [HI.out hil, HS.out.2.1] at h1 h2 h4
                  injection e with e
                  injection e with e1 e2 e3
                  subst e1 e2
                  exact ⟨ai2, ci2, h1, h2, h3, h4⟩
                obtain ⟨ai7, ci7, cl7, i71, i72, _⟩ := hcs.out w7 hbw7
                unfold maxLen at i72
                have Hil := Lib.hid hil
                obtain ⟨L2, hLL⟩ : ∃ L2, lq ++ nextS la li = L2 := ⟨_, rfl⟩
                have HLL := Lib.hid hLL
                have L7 : Hid (LawQ w2 w7 N Nd g 2048 u6 (c + 1) d6 p6 L2 (la + k) ∧ ItemsOwn w7 w6.heap.size (.slice ao7 b cap7) L2 ∧ w7.heap.size ≤ w7.heap.size) := Lib.hid (by rw [← hLL]; exact ⟨K7.out.1, K7.out.2.1, Nat.le_refl _⟩)
                have hac : a ≤ b := by omega
                have HAC := Lib.hid (show la + b = la + k + a by omega)
                have Z7 : Hid (w3.heap.size ≤ w7.heap.size) := Lib.hid (by
                  have h1 := hsz3.out
                  have h2 := HQ.out.2.size
                  have h3 := T6.out.1.size
                  have h4 := K7.out.2.2
                  omega)
                have HC2 := Lib.hid (show c + 1 ≤ 2 * j + 1 by have := hk.out.2.1; omega)
                have HLA := Lib.hid (show la ≤ sumN (ls.take j) from hk.out.2.2.2)
                clear hls ho7 hb7 hil hLL K7 K6 K4 hk HA HW hcl
                go_wp2
                clear cl7
                go_loopw [10, 16] (fun lv kv wr => ∃ t lt : Nat, a ≤ t ∧ t ≤ b ∧ kv = .int .i64 t ∧ lv = .int .i64 lt ∧ lt ≤ 100 ∧ Hid (lt + a = la + t) ∧ Hid (LawQ w2 wr N Nd g 2048 u6 (c + 1) d6 p6 L2 (la + k) ∧ ItemsOwn wr w6.heap.size (.slice ao7 b cap7) L2 ∧ w7.heap.size ≤ wr.heap.size)) (fun _ kv _ => b - (intOf kv).toNat)
                case atStart => exact ⟨a, la, Nat.le_refl _, hac, rfl, rfl, by omega, Lib.hid (by omega), L7⟩
                case round =>
                  clear L7
                  obtain ⟨t, lt, hta, htb, rfl, rfl, hlt100, hlt4, hk4⟩ := hrel
                  by_cases hlt5 : t < b
                  · obtain ⟨t2, ht2⟩ : ∃ t2, a + t2 = t := ⟨t - a, by omega⟩
                    have ht2k : t2 < k := by omega
                    have hsub : (t : Int) - (a : Int) = (t2 : Int) := by omega
                    have hlv : lt = la + t2 := by have := hlt4.out; omega
                    have hbw8 : Below w.heap.size w wr := B1.out.trans (hk4.out.1.s.lo.mono B1.out.size)
                    obtain ⟨ai8, ci8, cl8, i81, i82, hia8⟩ := hcs.out wr hbw8
                    unfold maxLen at i82
                    have h2l : t2 < li.length := by rw [HS.out.2.1]; exact ht2k
                    obtain ⟨_, _, e8, _, _, hcc⟩ := hia8
                    injection e8 with e81 e82 e83
                    subst e81 e83
                    obtain ⟨gi, oi, rfl, _, hx⟩ := hcc t2 h2l
                    have htl : t < L2.length := by rw [← HLL.out, T6.out.2.2]; exact hlt5
                    have hz : L2[t] = { li[t2] with id := (lt : Int) + 1 } := by
                      obtain ⟨h2, e2⟩ := next_at li la t2 h2l
                      have e3 : L2[t] = (nextS la li)[t2]'h2 := by
                        have hA2 : lq.length = a := by
                          have h5 := T6.out.2.2
                          rw [List.length_append, next_len, HS.out.2.1] at h5
                          omega
                        subst ht2
                        simp only [← HLL.out]
                        rw [List.getElem_append_right (by omega)]
                        congr 1
                        omega
                      rw [e3, e2, hlv]
                      congr 1
                    have hax : ItemsAt wr wr.heap.size (.slice ao7 b cap7) L2 := ItemsOwn.at hk4.out.2.1
                    obtain ⟨_, _, e9, l9, m9, hcy⟩ := hax
                    injection e9 with e91 e92 e93
                    subst e91 e93
                    obtain ⟨gn, on, rfl, hgn, cy⟩ := hcy t htl
                    rw [← HLL.out, T6.out.2.2] at l9
                    unfold maxLen at m9
                    rw [hz] at cy
                    obtain ⟨z, hzz⟩ : ∃ z, li[t2] = z := ⟨_, rfl⟩
                    rw [hzz] at cy hx
                    obtain ⟨F, hF⟩ : ∃ X, textQ z.fr = X := ⟨_, rfl⟩
                    obtain ⟨O, hO⟩ : ∃ X, textQ z.to = X := ⟨_, rfl⟩
                    obtain ⟨X, hX⟩ : ∃ X, textQ z.tx = X := ⟨_, rfl⟩
                    have x0 : wr.cell? ⟨gi, oi + t2 * 7, none⟩ = some (.int .i64 z.id) := hx 0 (by omega)
                    have x1 : wr.cell? ⟨gi, oi + t2 * 7 + 1, none⟩ = some (.string F) := by rw [← hF]; exact hx 1 (by omega)
                    have x2 : wr.cell? ⟨gi, oi + t2 * 7 + 2, none⟩ = some (.string O) := by rw [← hO]; exact hx 2 (by omega)
                    have x3 : wr.cell? ⟨gi, oi + t2 * 7 + 3, none⟩ = some (.string X) := by rw [← hX]; exact hx 3 (by omega)
                    have x4 : wr.cell? ⟨gi, oi + t2 * 7 + 4, none⟩ = some (.int .i64 z.b) := hx 4 (by omega)
                    have x5 : wr.cell? ⟨gi, oi + t2 * 7 + 5, none⟩ = some (.int .i64 z.t) := hx 5 (by omega)
                    have x6 : wr.cell? ⟨gi, oi + t2 * 7 + 6, none⟩ = some (.int .i64 z.d) := hx 6 (by omega)
                    obtain ⟨W1, hW1⟩ : ∃ W1, wr.alloc (.cells #[.int .i64 z.id, .string F, .string O, .string X, .int .i64 z.b, .int .i64 z.t, .int .i64 z.d] 44) = W1 := ⟨_, rfl⟩
                    have b1 : Below wr.heap.size wr W1 := by rw [← hW1]; exact (Below.refl _ _).alloc (Nat.le_refl _) _
                    have i1 : ItAt W1 wr.heap.size z.id F O X z.b z.t z.d := by rw [← hW1]; exact it_new wr _ _ _ _ _ _ _
                    obtain ⟨V, hV⟩ : ∃ V, W1.setCell ⟨wr.heap.size, 0, none⟩ (.int .i64 ((lt : Int) + 1)) = V := ⟨_, rfl⟩
                    have bV : Below wr.heap.size wr V := by rw [← hV]; exact b1.setCell (p := ⟨wr.heap.size, 0, none⟩) (Nat.le_refl _) _
                    have iV : ItAt V wr.heap.size ((lt : Int) + 1) F O X z.b z.t z.d := by rw [← hV]; exact heap_setCell_same W1 wr.heap.size 0 _ _ _ i1
                    have y0w : W1.cell? ⟨gn, on + t * 7, none⟩ = some (.int .i64 ((lt : Int) + 1)) := (b1.cell (p := ⟨gn, on + t * 7, none⟩) hgn).trans (cy 0 (by omega))
                    have yv : ∀ q, q < 7 → V.cell? ⟨gn, on + t * 7 + q, none⟩ = (itemCells { z with id := (lt : Int) + 1 })[q]? := fun q hq => (bV.cell (p := ⟨gn, on + t * 7 + q, none⟩) hgn).trans (cy q hq)
                    have y0 : V.cell? ⟨gn, on + t * 7, none⟩ = some (.int .i64 ((lt : Int) + 1)) := yv 0 (by omega)
                    have y1 : V.cell? ⟨gn, on + t * 7 + 1, none⟩ = some (.string F) := by rw [← hF]; exact yv 1 (by omega)
                    have y2 : V.cell? ⟨gn, on + t * 7 + 2, none⟩ = some (.string O) := by rw [← hO]; exact yv 2 (by omega)
                    have y3 : V.cell? ⟨gn, on + t * 7 + 3, none⟩ = some (.string X) := by rw [← hX]; exact yv 3 (by omega)
                    have y4 : V.cell? ⟨gn, on + t * 7 + 4, none⟩ = some (.int .i64 z.b) := yv 4 (by omega)
                    have y5 : V.cell? ⟨gn, on + t * 7 + 5, none⟩ = some (.int .i64 z.t) := yv 5 (by omega)
                    have y6 : V.cell? ⟨gn, on + t * 7 + 6, none⟩ = some (.int .i64 z.d) := yv 6 (by omega)
                    have hcm := fun W => run_item_neq { z with id := (lt : Int) + 1 } { z with id := (lt : Int) + 1 } W
                    have hgd := fun p q W => run_item_guard .neq p q { z with id := (lt : Int) + 1 } { z with id := (lt : Int) + 1 } W
                    rw [decide_eq_true rfl] at hcm
                    unfold itemV itemW at hcm hgd
                    simp only at hcm hgd
                    rw [hF, hO, hX] at hcm hgd
                    obtain ⟨_, _, _, _, _, _, _, f0, _⟩ := i1.cells
                    obtain ⟨a0, _⟩ := i1.cells
                    obtain ⟨v0, v1, v2, v3, v4, v5, v6, _⟩ := iV.cells
                    have K0 := Lib.hid (show ∀ q, LawQ w2 (V.drewN q) N Nd g 2048 u6 (c + 1) d6 p6 L2 (la + k) ∧ ItemsOwn (V.drewN q) w6.heap.size (.slice (some ⟨gn, on, none⟩) b cap7) L2 ∧ w7.heap.size ≤ (V.drewN q).heap.size from fun q => by
                      have hb := below_drewN bV q
                      exact ⟨hk4.out.1.below hb, (Turned.of_below (S := fun _ => False) hb (Nat.le_refl _)).row hk4.out.2.1 (fun _ _ h => h), Nat.le_trans hk4.out.2.2 hb.size⟩)
                    have H4 : Hid (lt + 1 + a = la + (t + 1)) := Lib.hid (by have := hlt4.out; omega)
                    have hlt101 : lt + 1 ≤ 100 := by omega
                    clear hcc hx e82 e92 hcy cy hz hzz hF hO hX b1 i1 bV iV yv hlv ht2 htl h2l hbw8 hk4 hlt4
                    go_wp2_with fail
                    go_quiet (fail)
                    have K1 := Lib.hid (K0.out nq)
                    have y0q : (V.drewN nq).cell? ⟨gn, on + t * 7, none⟩ = some (.int .i64 ((lt : Int) + 1)) := ((below_drewN (Below.refl V.heap.size V) nq).cell (p := ⟨gn, on + t * 7, none⟩) (World.block_lt_of_cell? V ⟨gn, on + t * 7, none⟩ y0)).trans y0
                    clear x0 x1 x2 x3 x4 x5 x6 y0 y1 y2 y3 y4 y5 y6 y0w v0 v1 v2 v3 v4 v5 v6 a0 f0 hcm hgd K0 cl8
                    go_wp2
                    go_roundw
                    case rel => exact ⟨t + 1, lt + 1, by omega, by omega, by go_num, by go_num, hlt101, H4, K1⟩
                    case measure => simp [intOf]; omega
                  · have htb2 : t = b := by omega
                    have hltv : la + k = lt := by have := hlt4.out; have := HAC.out; omega
                    have hq4 := hk4.out
                    rw [hltv] at hq4
                    have hL2b : L2.length = b := by rw [← HLL.out]; exact T6.out.2.2
                    have hblt : b ≤ lt := by omega
                    have hsm : lt ≤ sumN (ls.take (j + 1)) := by
                      have h1 := HS.out.1
                      have h2 := HLA.out
                      omega
                    have KC := Lib.hid (And.intro hq4.1 (And.intro (show c + 1 ≤ 2 * (j + 1) by have := HC2.out; omega) (And.intro (show L2.length ≤ lt by omega) hsm)))
                    have ZC : Hid (w3.heap.size ≤ wr.heap.size) := Lib.hid (Nat.le_trans Z7.out hq4.2.2)
                    have HO := Lib.hid (And.intro hq4.2.1 hL2b)
                    clear hltv hL2b hsm hk4 hlt4 hq4
                    by_cases hdn : j < nd
                    · by_cases hb0 : 0 < b
                      · obtain ⟨bl, offb, kb, rfl, hkb, hcb⟩ := HP.out.2.1.at hdn
                        have cb := hcb wr (B1.out.trans (KC.out.1.s.lo.mono B1.out.size))
                        obtain ⟨r, hr⟩ : ∃ r, kb % b = r := ⟨_, rfl⟩
                        have hrb : r < b := by rw [← hr]; exact Nat.mod_lt _ hb0
                        have hrem : (kb : Int) % (b : Int) = (r : Int) := by rw [← hr]; exact (Int.natCast_emod kb b).symm
                        have hrl : r < L2.length := by rw [HO.out.2]; exact hrb
                        have hax : ItemsAt wr wr.heap.size (.slice ao7 b cap7) L2 := ItemsOwn.at HO.out.1
                        obtain ⟨_, _, e9, l9, m9, hcy⟩ := hax
                        injection e9 with e91 e92 e93
                        subst e91 e93
                        obtain ⟨gn, on, rfl, hgn, cy⟩ := hcy r hrl
                        rw [HO.out.2] at l9
                        unfold maxLen at m9
                        have hxm := List.getElem_mem hrl
                        obtain ⟨hrr, nr, hid, n1, n2⟩ := KC.out.1.q.ok _ hxm
                        have hfw := KC.out.1.q.few
                        have y0 : wr.cell? ⟨gn, on + r * 7, none⟩ = some (.int .i64 (nr : Int)) := by rw [← hid]; exact cy 0 (by omega)
                        have hnr : nr ≤ 99999999 := by omega
                        have hdl := drop_len KC.out.1.q.rise hxm
                        rw [hid, HO.out.2] at hdl
                        obtain ⟨L3, hL3⟩ : ∃ L3, (L2.filter fun y => !(y.id == (nr : Int))) = L3 := ⟨_, rfl⟩
                        rw [hL3] at hdl
                        obtain ⟨f, hf⟩ : ∃ f, L3.length = f := ⟨_, rfl⟩
                        rw [hf] at hdl
                        have hfb : (b : Int) - 1 = (f : Int) := by omega
                        have hdr := sdrop_any nr wr hnr KC.out.1.pow
                        unfold chV at hdr
                        rw [show textQ [] = (⟨#[]⟩ : ByteArray) from rfl] at hdr
                        obtain ⟨KT, hKT⟩ : ∃ K, textQ (keyS nr) = K := ⟨_, rfl⟩
                        rw [hKT] at hdr
                        have HD := Lib.hid (And.intro hnr (And.intro hL3 (And.intro hf (And.intro hKT (show f ≤ lt by omega)))))
                        have hf100 : f ≤ 100 := by omega
                        clear hr e92 hcy cy hxm hrr hid n1 n2 hfw hdl hL3 hf hKT hnr hrl htb2
                        go_wp2_with fail
                        refine hdr.mono ?_
                        rintro e w8 ⟨rfl, hb8⟩
                        have q8 := KC.out.1.below hb8
                        have hcm := lawq_one q8 (by have := HC2.out; omega) (keyS nr) [] true ⟨by rw [key_len HD.out.1]; omega, by simp⟩
                        have hqd := queue_drop q8.q (n := nr) HD.out.1 []
                        rw [HD.out.2.1] at hqd
                        have Z8 : Hid (w3.heap.size ≤ w8.heap.size) := Lib.hid (Nat.le_trans ZC.out hb8.size)
                        have hfit : ∀ c ∈ [(⟨keyS nr, [], true⟩ : Ch)], c.fits := fun c hc => by
                          rw [List.mem_singleton.1 hc]
                          exact ⟨by show (keyS nr).length ≤ _; rw [key_len HD.out.1]; omega, by simp⟩
                        rw [HD.out.2.2.2.1, show textQ [] = (⟨#[]⟩ : ByteArray) from rfl] at hcm
                        clear hdr hb8 q8 y0 cb
                        rcases commit_ends (h := 2048) (used := u6) (ps := p6) hfit with ⟨h0, hps⟩ | hne
                        case inr =>
                          obtain ⟨co, hco⟩ : ∃ co, (commitP 2048 (u6, p6) [⟨keyS nr, [], true⟩]).2 = co := ⟨_, rfl⟩
                          rw [hco] at hcm hne
                          clear hqd hfit hco
                          go_wp2_with fail
                          refine hcm.mono ?_
                          rintro e w9 ⟨d9, rfl, hl9, _, _⟩
                          have Fin := Lib.hid (B1.out.trans (hl9.lo.mono B1.out.size))
                          clear hcm hl9
                          go_wp2
                          go_ret
                          exact ⟨rfl, Fin.out⟩
                        case inl =>
                          rw [h0, hps] at hcm
                          obtain ⟨u9, hu9⟩ : ∃ u9, (commitP 2048 (u6, p6) [⟨keyS nr, [], true⟩]).1.1 = u9 := ⟨_, rfl⟩
                          rw [hu9] at hcm
                          have HQ9 := Lib.hid hqd
                          clear hqd hfit h0 hps hu9
                          go_wp2_with fail
                          refine hcm.mono ?_
                          rintro e w9 ⟨d9, rfl, hl9, _, ht9⟩
                          have q9 : LawQ w2 w9 N Nd g 2048 u9 (c + 1 + 1) d9 _ L3 lt := ⟨hl9, HQ9.out, KC.out.1.pw⟩
                          have hgn2 := lawq_gone q9 nr HD.out.1 (by rw [← HD.out.2.1]; exact drop_gone)
                          have Z9 : Hid (w3.heap.size ≤ w9.heap.size) := Lib.hid (by
                            have h1 := ht9.size
                            rw [World.size_alloc] at h1
                            have h2 := Z8.out
                            omega)
                          have K9 := Lib.hid q9
                          clear hcm hl9 ht9 q9
                          go_wp2_with fail
                          refine hgn2.mono ?_
                          rintro e w10 ⟨rfl, hb10⟩
                          have q11 := K9.out.below (W' := w10.alloc (.cells #[.int .i64 0, .string ⟨#[]⟩, .string ⟨#[]⟩, .string ⟨#[]⟩, .int .i64 0, .int .i64 0, .int .i64 0] 44)) (hb10.alloc hb10.size _)
                          have hls2 : Calls Tryz.prog 19 #[.pointer (some ⟨N, 0, none⟩)] (w10.alloc (.cells #[.int .i64 0, .string ⟨#[]⟩, .string ⟨#[]⟩, .string ⟨#[]⟩, .int .i64 0, .int .i64 0, .int .i64 0] 44)) fun e w' => ∃ ao cap, e = .returned (.slice ao f cap) ∧ Below (w10.alloc (.cells #[.int .i64 0, .string ⟨#[]⟩, .string ⟨#[]⟩, .string ⟨#[]⟩, .int .i64 0, .int .i64 0, .int .i64 0] 44)).heap.size (w10.alloc (.cells #[.int .i64 0, .string ⟨#[]⟩, .string ⟨#[]⟩, .string ⟨#[]⟩, .int .i64 0, .int .i64 0, .int .i64 0] 44)) w' := (lawq_list q11 (by have := HC2.out; omega) (by rw [HD.out.2.2.1]; omega)).mono fun e w' ⟨v, h1, h2, h3⟩ => by
                            unfold ItemsOwn at h2
                            rw [HD.out.2.2.1] at h2
                            obtain ⟨ao, cap, rfl⟩ := row_slice h2
                            exact ⟨ao, cap, h1, h3⟩
                          have Z11 : Hid (w3.heap.size ≤ (w10.alloc (.cells #[.int .i64 0, .string ⟨#[]⟩, .string ⟨#[]⟩, .string ⟨#[]⟩, .int .i64 0, .int .i64 0, .int .i64 0] 44)).heap.size) := Lib.hid (by
                            rw [World.size_alloc]
                            have := hb10.size
                            have := Z9.out
                            omega)
                          have K11 := Lib.hid q11
                          clear hgn2 hb10 q11 K9
                          go_wp2_with fail
                          refine hls2.mono ?_
                          rintro e w12 ⟨ao12, cap12, rfl, hb12⟩
                          have KF := Lib.hid (And.intro (K11.out.below hb12) (And.intro (show c + 1 + 1 ≤ 2 * (j + 1) by have := HC2.out; omega) (And.intro (show L3.length ≤ lt by rw [HD.out.2.2.1]; exact HD.out.2.2.2.2) KC.out.2.2.2)))
                          have ZF : Hid (w3.heap.size ≤ w12.heap.size) := Lib.hid (Nat.le_trans Z11.out hb12.size)
                          clear hls2 hb12 K11 KC HO
                          go_wp2
                          go_roundw
                          case rel => exact ⟨j + 1, lt, u9, c + 1 + 1, d9, _, L3, by omega, by go_num, rfl, KF, ZF⟩
                          case measure => simp [intOf]; omega
                      · clear HO
                        go_wp2
                        go_roundw
                        case rel => exact ⟨j + 1, lt, u6, c + 1, d6, p6, L2, by omega, by go_num, rfl, KC, ZC⟩
                        case measure => simp [intOf]; omega
                    · clear HO
                      go_wp2
                      go_roundw
                      case rel => exact ⟨j + 1, lt, u6, c + 1, d6, p6, L2, by omega, by go_num, rfl, KC, ZC⟩
                      case measure => simp [intOf]; omega
          · have hkk := hk.out.1.s.lo
            have Fin := Lib.hid (B1.out.trans (hkk.mono B1.out.size))
            clear hk hkk
            go_wp2
            go_ret
            exact ⟨rfl, Fin.out⟩
end Go.Proofs.YtgpdplffljidbaaGreatDoor
