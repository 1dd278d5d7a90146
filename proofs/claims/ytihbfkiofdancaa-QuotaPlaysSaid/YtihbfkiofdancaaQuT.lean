/-
  QuotaTotal returns true, for any bounds and any acts: the walk.
-/
import Derived.Test.YtihbfkiofdancaaQuG
import Derived.Test.YtihbfkiofdancaaQuH
namespace Go.Proofs.Ytihbfkiofdancaa
open Go.RowKit Go.Maps

theorem sumQ_congr {ta ta' : Nat → Int} : ∀ k, (∀ j, j < k → ta j = ta' j) → sumQ ta k = sumQ ta' k
  | 0, _ => rfl
  | k + 1, h => by simp only [sumQ, sumQ_congr k (fun j hj => h j (by omega)), h k (by omega)]
theorem sumQ_more (ta : Nat → Int) (i : Nat) (m : Int) : ∀ k, i < k → sumQ (moreQ ta i m) k = sumQ ta k + m
  | 0, h => by omega
  | k + 1, h => by
    simp only [sumQ]
    by_cases e : i = k
    · subst e
      rw [sumQ_congr (ta := moreQ ta i m) (ta' := ta) i (fun j hj => by unfold moreQ; rw [if_neg (by omega)])]
      unfold moreQ
      rw [if_pos rfl]
      omega
    · rw [sumQ_more ta i m k (by omega)]
      have : moreQ ta i m k = ta k := by unfold moreQ; rw [if_neg (by omega)]
      omega
theorem take_zero {n : Nat} {bo ta : Nat → Int} {l m : Int} (h : takeQ n bo ta l m = 0) : 0 ≤ m ∧ ∃ i : Nat, l = i ∧ i < n ∧ m ≤ bo i - ta i := by
  unfold takeQ at h
  by_cases h0 : checkQ n l m = 0
  · obtain ⟨hm, i, rfl, hi⟩ := check_ok h0
    rw [if_neg (fun e => e h0), Int.toNat_natCast] at h
    by_cases h1 : m ≤ bo i - ta i
    · exact ⟨hm, i, rfl, hi, h1⟩
    · rw [if_neg h1] at h
      omega
  · rw [if_pos h0] at h
    exact absurd h h0
theorem give_zero {n : Nat} {ta : Nat → Int} {l m : Int} (h : giveQ n ta l m = 0) : 0 ≤ m ∧ ∃ i : Nat, l = i ∧ i < n ∧ m ≤ ta i := by
  unfold giveQ at h
  by_cases h0 : checkQ n l m = 0
  · obtain ⟨hm, i, rfl, hi⟩ := check_ok h0
    rw [if_neg (fun e => e h0), Int.toNat_natCast] at h
    by_cases h1 : m ≤ ta i
    · exact ⟨hm, i, rfl, hi, h1⟩
    · rw [if_neg h1] at h
      omega
  · rw [if_pos h0] at h
    exact absurd h h0
theorem next_sum0 {n : Nat} {ta : Nat → Int} {c m : Int} {i : Nat} (hc : c = 0) (hi : i < n) : sumQ (nextQ ta c (i : Int) m) n = sumQ ta n + m := by
  unfold nextQ
  rw [if_pos hc, Int.toNat_natCast]
  exact sumQ_more ta i m n hi
theorem next_sum1 {n : Nat} {ta : Nat → Int} {c l m : Int} (hc : c ≠ 0) : sumQ (nextQ ta c l m) n = sumQ ta n := by
  unfold nextQ
  rw [if_neg hc]
theorem taken_in {n : Nat} {ta : Nat → Int} {k : Nat} (h : k < n) : takenQ n ta (k : Int) = ta k := by
  unfold takenQ hasQ
  rw [decide_eq_true (show 0 ≤ (k : Int) ∧ (k : Int) < n by omega), if_pos rfl, Int.toNat_natCast]
theorem left_in {n : Nat} {bo ta : Nat → Int} {k : Nat} (h : k < n) : leftQ n bo ta (k : Int) = bo k - ta k := by
  unfold leftQ hasQ
  rw [decide_eq_true (show 0 ≤ (k : Int) ∧ (k : Int) < n by omega), if_pos rfl, Int.toNat_natCast]
theorem HasB.sum {w0 W : World} {N n : Nat} {bo ta : Nat → Int} (h : HasB w0 N n bo ta W) {k : Nat} (hk : k ≤ n) : 0 ≤ sumQ ta k ∧ sumQ ta k ≤ 17592186044416 := by
  have := sumQ_range (n := n) (fun i hi => ⟨(h.bk.ok i hi).1, Int.le_trans (h.bk.ok i hi).2.1 (h.bk.ok i hi).2.2⟩) k hk
  have := h.bk.n16
  omega

set_option maxRecDepth 100000 in
set_option maxHeartbeats 4000000 in
theorem qtotal_walk (A : Option Addr) (n c : Nat) (lb : List Int) (A' : Option Addr) (n' c' : Nat) (la : List ActQ) (w : World) (h : Ints w A n lb) (h' : ActsQ w A' n' la) :
    Calls Try.prog 6 #[.slice A n c, .slice A' n' c'] w fun e w' => e = .returned (.bool true) ∧ Below w.heap.size w w' := by
  have haw := awake9_any w
  go_enter Try.func6, Try.ntmps6
  go_wp2_with fail
  refine haw.mono ?_
  rintro e w1 ⟨rfl, hb1⟩
  clear haw
  by_cases hn : 16 < n
  · have Hb := Lib.hid hb1
    clear hb1
    go_wp2_with fail
    go_ret
    exact ⟨rfl, Hb.out⟩
  by_cases hn' : 300 < n'
  · have Hb := Lib.hid hb1
    clear hb1
    go_wp2_with fail
    go_ret
    exact ⟨rfl, Hb.out⟩
  have hI := h.below hb1 (Nat.le_refl _)
  go_wp2_with fail
  refine (hb_new hb1 hI).mono ?_
  rintro e w2 ⟨hb2, hr⟩
  have hB2 := hb1.trans (hb2.mono hb1.size)
  clear hI hb2
  rcases hr with ⟨_, rfl⟩ | ⟨_, N, rfl, _, hB⟩
  · have Hb := Lib.hid hB2
    clear hB2 hb1
    go_wp2_with fail
    go_ret
    exact ⟨rfl, Hb.out⟩
  clear hb1
  generalize hbo : (fun i => lb.getD i 0) = bo at hB
  have HBO := Lib.hid hbo
  have H := Lib.hid h
  have H' := Lib.hid h'
  clear hbo hB2 h h'
  go_wp2_with fail
  go_loopw [7] (fun iv wr => ∃ (i : Nat) (ta : Nat → Int), i ≤ n' ∧ iv = .int .i64 i ∧ HasB w N n bo ta wr) (fun iv _ => n' - (intOf iv).toNat)
  case atStart => exact ⟨0, _, by omega, rfl, hB⟩
  case round =>
    clear hB
    obtain ⟨i, ta, hi, rfl, hB⟩ := hrel
    by_cases hlt : i < n'
    case neg =>
      obtain rfl : i = n' := by omega
      have Hb := Lib.hid hB.lo
      clear hB
      go_wp2_with fail
      go_ret
      exact ⟨rfl, Hb.out⟩
    obtain ⟨b, off, k, l, m, rfl, hbs, hm0, hm1, hcs⟩ := H'.out.at_ hlt
    obtain ⟨s0, s1⟩ := hB.sum (Nat.le_refl n)
    obtain ⟨c0, c1, c2⟩ := hcs _ hB.lo
    have htot := hb_total hB
    have hTK := hb_take hB l m hm1
    have hGV := hb_give hB l m hm1
    have hz := fun (i : Nat) (hi : i < n) => hB.bk.ok i hi
    obtain ⟨s, hs⟩ : ∃ s, sumQ ta n = s := ⟨_, rfl⟩
    rw [hs] at htot s0 s1
    have HB := Lib.hid hB
    have HS := Lib.hid hs
    have HTK := Lib.hid hTK
    have HGV := Lib.hid hGV
    clear hB hs hTK hGV hcs hz
    -- the number that is added, and the answer: then the sums
    by_cases hk : k = 0
    · obtain ⟨f, hf⟩ : ∃ f, takeQ n bo ta l m = f := ⟨_, rfl⟩
      rw [hf] at HTK
      have htk := HTK.out
      clear HGV HTK
      have HF := Lib.hid hf
      clear hf
      subst hk
      by_cases hf0 : f = 0
      · subst hf0
        go_wp2_with fail
        refine htot.mono ?_
        rintro e w' ⟨rfl, h9⟩
        obtain rfl := h9.symm
        clear h9
        go_wp2_with fail
        refine htk.mono ?_
        rintro e w3 ⟨rfl, hB3, _⟩
        obtain ⟨hm, j, rfl, hj, hle⟩ := take_zero HF.out
        have hsum := next_sum0 (ta := ta) (c := 0) (m := m) rfl hj
        rw [HS.out] at hsum
        generalize nextQ ta 0 (j : Int) m = ta' at hB3 hsum
        obtain ⟨t0, t1⟩ := hB3.sum (Nat.le_refl n)
        clear htk htot HF HB HS c0 c1 c2
        go_wp2_with fail
        go_loopw [11, 12] (fun sv kv wr => ∃ k : Nat, k ≤ n ∧ kv = .int .i64 k ∧ sv = .int .i64 (sumQ ta' k) ∧ HasB w N n bo ta' wr) (fun _ kv _ => n - (intOf kv).toNat)
        case atStart => exact ⟨0, by omega, rfl, rfl, hB3⟩
        case round =>
          clear hB3
          obtain ⟨k, hk, rfl, rfl, hB⟩ := hrel
          by_cases hkn : k < n
          · obtain ⟨p0, p1⟩ := hB.sum hk
            obtain ⟨r0, r1, r2⟩ := hB.bk.ok k hkn
            obtain ⟨bb, bf, rfl, hbb, hbc⟩ := H.out.at_ hkn
            replace hbc := (hB.lo.cell (p := ⟨bb, bf + k, none⟩) hbb).trans hbc
            rw [show lb.getD k 0 = bo k by rw [← HBO.out]] at hbc
            have hsk : sumQ ta' (k + 1) = sumQ ta' k + ta' k := rfl
            obtain ⟨z, hz⟩ : ∃ z, bo k - ta' k = z := ⟨_, rfl⟩
            have ht := hb_taken hB (k : Int)
            rw [taken_in hkn] at ht
            have hqt : ∀ q, Calls Try.prog 15 #[.pointer (some ⟨N, 0, none⟩), .int .i64 (k : Int)] (wr.drewN q) fun e w' => e = .returned (.int .i64 (ta' k)) ∧ w' = wr.drewN q := fun q => by
              have := hb_taken (hB.drewN q) (k : Int)
              rw [taken_in hkn] at this
              exact this
            have hql : ∀ q, Calls Try.prog 16 #[.pointer (some ⟨N, 0, none⟩), .int .i64 (k : Int)] (wr.drewN q) fun e w' => e = .returned (.int .i64 z) ∧ ∃ m, w' = wr.drewN m := fun q => by
              have := hb_left (hB.drewN q) (k : Int)
              rw [left_in hkn, hz] at this
              exact this.mono fun _ _ ⟨he, m, hm⟩ => ⟨he, q + m, by rw [hm, World.drewN_drewN]⟩
            have HN := Lib.hid (fun q => hB.drewN q)
            have Hsk := Lib.hid hsk
            have hz2 : ta' k + z = bo k := by omega
            have hz0 : 0 ≤ z := by omega
            clear hB hsk hz
            generalize sumQ ta' k = sk at *
            generalize ta' k = t at *
            generalize bo k = b0 at *
            go_wp2_with (go_at_call 15; refine ht.mono ?_; rintro e w' ⟨rfl, rfl⟩)
            go_quiet (first | (go_at_call 15; exact Calls.quiet_of_same (hqt _)) | (go_at_call 16; exact hql _))
            go_wp2_with fail
            go_roundw
            case rel => exact ⟨k + 1, by omega, by go_num, by rw [Hsk.out], HN.out _⟩
            case measure => simp [intOf]; omega
          · obtain rfl : k = n := by omega
            have htt := hb_total hB
            have HB3 := Lib.hid hB
            clear hB
            generalize sumQ ta' k = T at *
            subst hsum
            go_wp2_with (go_at_call 17; refine htt.mono ?_; rintro e w' ⟨rfl, rfl⟩)
            go_roundw
            case rel => exact ⟨i + 1, ta', by omega, by go_num, HB3.out⟩
            case measure => simp [intOf]; omega
      · have hne : (f != 0) = true := by rw [bne_iff_ne]; exact hf0
        have hne2 : (f == 0) = false := by rw [beq_eq_false_iff_ne]; exact hf0
        go_wp2_with fail
        refine htot.mono ?_
        rintro e w' ⟨rfl, h9⟩
        obtain rfl := h9.symm
        clear h9
        go_wp2_with fail
        refine htk.mono ?_
        rintro e w3 ⟨rfl, hB3, _⟩
        have hsum := next_sum1 (n := n) (ta := ta) (l := l) (m := m) hf0
        rw [HS.out] at hsum
        generalize nextQ ta f l m = ta' at hB3 hsum
        obtain ⟨t0, t1⟩ := hB3.sum (Nat.le_refl n)
        clear htk htot HF HB HS c0 c1 c2
        go_wp2_with fail
        go_loopw [11, 12] (fun sv kv wr => ∃ k : Nat, k ≤ n ∧ kv = .int .i64 k ∧ sv = .int .i64 (sumQ ta' k) ∧ HasB w N n bo ta' wr) (fun _ kv _ => n - (intOf kv).toNat)
        case atStart => exact ⟨0, by omega, rfl, rfl, hB3⟩
        case round =>
          clear hB3
          obtain ⟨k, hk, rfl, rfl, hB⟩ := hrel
          by_cases hkn : k < n
          · obtain ⟨p0, p1⟩ := hB.sum hk
            obtain ⟨r0, r1, r2⟩ := hB.bk.ok k hkn
            obtain ⟨bb, bf, rfl, hbb, hbc⟩ := H.out.at_ hkn
            replace hbc := (hB.lo.cell (p := ⟨bb, bf + k, none⟩) hbb).trans hbc
            rw [show lb.getD k 0 = bo k by rw [← HBO.out]] at hbc
            have hsk : sumQ ta' (k + 1) = sumQ ta' k + ta' k := rfl
            obtain ⟨z, hz⟩ : ∃ z, bo k - ta' k = z := ⟨_, rfl⟩
            have ht := hb_taken hB (k : Int)
            rw [taken_in hkn] at ht
            have hqt : ∀ q, Calls Try.prog 15 #[.pointer (some ⟨N, 0, none⟩), .int .i64 (k : Int)] (wr.drewN q) fun e w' => e = .returned (.int .i64 (ta' k)) ∧ w' = wr.drewN q := fun q => by
              have := hb_taken (hB.drewN q) (k : Int)
              rw [taken_in hkn] at this
              exact this
            have hql : ∀ q, Calls Try.prog 16 #[.pointer (some ⟨N, 0, none⟩), .int .i64 (k : Int)] (wr.drewN q) fun e w' => e = .returned (.int .i64 z) ∧ ∃ m, w' = wr.drewN m := fun q => by
              have := hb_left (hB.drewN q) (k : Int)
              rw [left_in hkn, hz] at this
              exact this.mono fun _ _ ⟨he, m, hm⟩ => ⟨he, q + m, by rw [hm, World.drewN_drewN]⟩
            have HN := Lib.hid (fun q => hB.drewN q)
            have Hsk := Lib.hid hsk
            have hz2 : ta' k + z = bo k := by omega
            have hz0 : 0 ≤ z := by omega
            clear hB hsk hz
            generalize sumQ ta' k = sk at *
            generalize ta' k = t at *
            generalize bo k = b0 at *
            go_wp2_with (go_at_call 15; refine ht.mono ?_; rintro e w' ⟨rfl, rfl⟩)
            go_quiet (first | (go_at_call 15; exact Calls.quiet_of_same (hqt _)) | (go_at_call 16; exact hql _))
            go_wp2_with fail
            go_roundw
            case rel => exact ⟨k + 1, by omega, by go_num, by rw [Hsk.out], HN.out _⟩
            case measure => simp [intOf]; omega
          · obtain rfl : k = n := by omega
            have htt := hb_total hB
            have HB3 := Lib.hid hB
            clear hB
            generalize sumQ ta' k = T at *
            subst hsum
            go_wp2_with (go_at_call 17; refine htt.mono ?_; rintro e w' ⟨rfl, rfl⟩)
            go_roundw
            case rel => exact ⟨i + 1, ta', by omega, by go_num, HB3.out⟩
            case measure => simp [intOf]; omega
    · obtain ⟨f, hf⟩ : ∃ f, giveQ n ta l m = f := ⟨_, rfl⟩
      rw [hf] at HGV
      have hgv := HGV.out
      clear HGV HTK
      have HF := Lib.hid hf
      clear hf
      by_cases hf0 : f = 0
      · subst hf0
        go_wp2_with fail
        refine htot.mono ?_
        rintro e w' ⟨rfl, h9⟩
        obtain rfl := h9.symm
        clear h9
        go_wp2_with fail
        refine hgv.mono ?_
        rintro e w3 ⟨rfl, hB3, _⟩
        obtain ⟨hm, j, rfl, hj, hle⟩ := give_zero HF.out
        have hsum := next_sum0 (ta := ta) (c := 0) (m := (-m)) rfl hj
        rw [HS.out] at hsum
        generalize nextQ ta 0 (j : Int) (-m) = ta' at hB3 hsum
        obtain ⟨t0, t1⟩ := hB3.sum (Nat.le_refl n)
        clear hgv htot HF HB HS c0 c1 c2
        go_wp2_with fail
        go_loopw [11, 12] (fun sv kv wr => ∃ k : Nat, k ≤ n ∧ kv = .int .i64 k ∧ sv = .int .i64 (sumQ ta' k) ∧ HasB w N n bo ta' wr) (fun _ kv _ => n - (intOf kv).toNat)
        case atStart => exact ⟨0, by omega, rfl, rfl, hB3⟩
        case round =>
          clear hB3
          obtain ⟨k, hk, rfl, rfl, hB⟩ := hrel
          by_cases hkn : k < n
          · obtain ⟨p0, p1⟩ := hB.sum hk
            obtain ⟨r0, r1, r2⟩ := hB.bk.ok k hkn
            obtain ⟨bb, bf, rfl, hbb, hbc⟩ := H.out.at_ hkn
            replace hbc := (hB.lo.cell (p := ⟨bb, bf + k, none⟩) hbb).trans hbc
            rw [show lb.getD k 0 = bo k by rw [← HBO.out]] at hbc
            have hsk : sumQ ta' (k + 1) = sumQ ta' k + ta' k := rfl
            obtain ⟨z, hz⟩ : ∃ z, bo k - ta' k = z := ⟨_, rfl⟩
            have ht := hb_taken hB (k : Int)
            rw [taken_in hkn] at ht
            have hqt : ∀ q, Calls Try.prog 15 #[.pointer (some ⟨N, 0, none⟩), .int .i64 (k : Int)] (wr.drewN q) fun e w' => e = .returned (.int .i64 (ta' k)) ∧ w' = wr.drewN q := fun q => by
              have := hb_taken (hB.drewN q) (k : Int)
              rw [taken_in hkn] at this
              exact this
            have hql : ∀ q, Calls Try.prog 16 #[.pointer (some ⟨N, 0, none⟩), .int .i64 (k : Int)] (wr.drewN q) fun e w' => e = .returned (.int .i64 z) ∧ ∃ m, w' = wr.drewN m := fun q => by
              have := hb_left (hB.drewN q) (k : Int)
              rw [left_in hkn, hz] at this
              exact this.mono fun _ _ ⟨he, m, hm⟩ => ⟨he, q + m, by rw [hm, World.drewN_drewN]⟩
            have HN := Lib.hid (fun q => hB.drewN q)
            have Hsk := Lib.hid hsk
            have hz2 : ta' k + z = bo k := by omega
            have hz0 : 0 ≤ z := by omega
            clear hB hsk hz
            generalize sumQ ta' k = sk at *
            generalize ta' k = t at *
            generalize bo k = b0 at *
            go_wp2_with (go_at_call 15; refine ht.mono ?_; rintro e w' ⟨rfl, rfl⟩)
            go_quiet (first | (go_at_call 15; exact Calls.quiet_of_same (hqt _)) | (go_at_call 16; exact hql _))
            go_wp2_with fail
            go_roundw
            case rel => exact ⟨k + 1, by omega, by go_num, by rw [Hsk.out], HN.out _⟩
            case measure => simp [intOf]; omega
          · obtain rfl : k = n := by omega
            have htt := hb_total hB
            have HB3 := Lib.hid hB
            clear hB
            generalize sumQ ta' k = T at *
            subst hsum
            go_wp2_with (go_at_call 17; refine htt.mono ?_; rintro e w' ⟨rfl, rfl⟩)
            go_roundw
            case rel => exact ⟨i + 1, ta', by omega, by go_num, HB3.out⟩
            case measure => simp [intOf]; omega
      · have hne : (f != 0) = true := by rw [bne_iff_ne]; exact hf0
        have hne2 : (f == 0) = false := by rw [beq_eq_false_iff_ne]; exact hf0
        go_wp2_with fail
        refine htot.mono ?_
        rintro e w' ⟨rfl, h9⟩
        obtain rfl := h9.symm
        clear h9
        go_wp2_with fail
        refine hgv.mono ?_
        rintro e w3 ⟨rfl, hB3, _⟩
        have hsum := next_sum1 (n := n) (ta := ta) (l := l) (m := (-m)) hf0
        rw [HS.out] at hsum
        generalize nextQ ta f l (-m) = ta' at hB3 hsum
        obtain ⟨t0, t1⟩ := hB3.sum (Nat.le_refl n)
        clear hgv htot HF HB HS c0 c1 c2
        go_wp2_with fail
        go_loopw [11, 12] (fun sv kv wr => ∃ k : Nat, k ≤ n ∧ kv = .int .i64 k ∧ sv = .int .i64 (sumQ ta' k) ∧ HasB w N n bo ta' wr) (fun _ kv _ => n - (intOf kv).toNat)
        case atStart => exact ⟨0, by omega, rfl, rfl, hB3⟩
        case round =>
          clear hB3
          obtain ⟨k, hk, rfl, rfl, hB⟩ := hrel
          by_cases hkn : k < n
          · obtain ⟨p0, p1⟩ := hB.sum hk
            obtain ⟨r0, r1, r2⟩ := hB.bk.ok k hkn
            obtain ⟨bb, bf, rfl, hbb, hbc⟩ := H.out.at_ hkn
            replace hbc := (hB.lo.cell (p := ⟨bb, bf + k, none⟩) hbb).trans hbc
            rw [show lb.getD k 0 = bo k by rw [← HBO.out]] at hbc
            have hsk : sumQ ta' (k + 1) = sumQ ta' k + ta' k := rfl
            obtain ⟨z, hz⟩ : ∃ z, bo k - ta' k = z := ⟨_, rfl⟩
            have ht := hb_taken hB (k : Int)
            rw [taken_in hkn] at ht
            have hqt : ∀ q, Calls Try.prog 15 #[.pointer (some ⟨N, 0, none⟩), .int .i64 (k : Int)] (wr.drewN q) fun e w' => e = .returned (.int .i64 (ta' k)) ∧ w' = wr.drewN q := fun q => by
              have := hb_taken (hB.drewN q) (k : Int)
              rw [taken_in hkn] at this
              exact this
            have hql : ∀ q, Calls Try.prog 16 #[.pointer (some ⟨N, 0, none⟩), .int .i64 (k : Int)] (wr.drewN q) fun e w' => e = .returned (.int .i64 z) ∧ ∃ m, w' = wr.drewN m := fun q => by
              have := hb_left (hB.drewN q) (k : Int)
              rw [left_in hkn, hz] at this
              exact this.mono fun _ _ ⟨he, m, hm⟩ => ⟨he, q + m, by rw [hm, World.drewN_drewN]⟩
            have HN := Lib.hid (fun q => hB.drewN q)
            have Hsk := Lib.hid hsk
            have hz2 : ta' k + z = bo k := by omega
            have hz0 : 0 ≤ z := by omega
            clear hB hsk hz
            generalize sumQ ta' k = sk at *
            generalize ta' k = t at *
            generalize bo k = b0 at *
            go_wp2_with (go_at_call 15; refine ht.mono ?_; rintro e w' ⟨rfl, rfl⟩)
            go_quiet (first | (go_at_call 15; exact Calls.quiet_of_same (hqt _)) | (go_at_call 16; exact hql _))
            go_wp2_with fail
            go_roundw
            case rel => exact ⟨k + 1, by omega, by go_num, by rw [Hsk.out], HN.out _⟩
            case measure => simp [intOf]; omega
          · obtain rfl : k = n := by omega
            have htt := hb_total hB
            have HB3 := Lib.hid hB
            clear hB
            generalize sumQ ta' k = T at *
            subst hsum
            go_wp2_with (go_at_call 17; refine htt.mono ?_; rintro e w' ⟨rfl, rfl⟩)
            go_roundw
            case rel => exact ⟨i + 1, ta', by omega, by go_num, HB3.out⟩
            case measure => simp [intOf]; omega
end Go.Proofs.Ytihbfkiofdancaa
