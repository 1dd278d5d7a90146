/-
  WalSpoilt: the walk.
-/
import Derived.Test.YtcjmpkfcjcoobaaGreatZWRoom
namespace Go.Proofs.YtcjmpkfcjcoobaaGreat
open Go.RowKit Go.Maps

/-- A disk of so many sectors that is on, and that no cut waits at. -/
structure FreeD (d : Dk) (n k : Nat) : Prop where
  len : d.ss.length = n
  up : d.down = false
  ca : d.ca ≤ 0
  ah : d.ah ≤ d.wr
  wr : d.wr ≤ k
theorem FreeD.write {d : Dk} {n k : Nat} (h : FreeD d n k) (p : Int) (x : List UInt8) : FreeD (writeD d p x) n (k + 1) := by
  have h1 := h.ca
  have h2 := h.ah
  have h3 := h.wr
  unfold writeD
  split
  · unfold wroteD
    rw [if_neg (by omega)]
    exact ⟨(List.length_set ..).trans h.len, h.up, h.ca, by show d.ah ≤ d.wr + 1; omega, by show d.wr + 1 ≤ _; omega⟩
  · exact ⟨h.len, h.up, h.ca, h.ah, by omega⟩
theorem free_new (n : Nat) : FreeD (newD n) n 0 := ⟨List.length_replicate .., rfl, Int.le_refl _, Int.le_refl _, Int.le_refl _⟩
theorem code_no6 (sz used : Nat) (ps : List PairP) (l : List Ch) : ∃ x : Int, (commitP sz (used, ps) l).2 = x ∧ (x == 6) = false := by
  refine ⟨_, rfl, ?_⟩
  rcases code_commit sz used ps l with h | h | h <;> rw [h] <;> rfl

theorem fit_commit (sz used : Nat) (l : List Ch) : FitP (commitP sz (used, []) l).1.2 := by
  have h0 : FitP [] := fun p hp => by cases hp
  unfold commitP
  by_cases h : ∀ c ∈ l, c.key.length ≤ 65535 ∧ c.val.length ≤ 65535
  · rw [if_neg (fun hh => hh h)]
    repeat' split
    · exact h0
    · exact fit_behind l h0 h
    · exact fit_behind l h0 h
    · exact h0
  · rw [if_pos h]
    exact h0
theorem find_in {ps : List PairP} (hs : SortedP ps) {p : PairP} (hp : p ∈ ps) : findP ps p.1 = some p.2 := by
  induction ps with
  | nil => cases hp
  | cons q ps ih =>
    rw [find_cons]
    rcases List.mem_cons.1 hp with rfl | hp
    · rw [if_pos rfl]
    · have h1 := (sorted_cons.1 hs).1 p hp
      rw [if_neg (fun e => by rw [e, less_irrefl] at h1; cases h1)]
      exact ih (sorted_cons.1 hs).2 hp

set_option maxRecDepth 100000 in
set_option maxHeartbeats 16000000 in
theorem wspoilt_walk (A : Option Addr) (n c : Nat) (ss : List ByteArray) (v : Value) (l : List Ch) (pl : Int) (T : ByteArray) (w : World) (hS : Strs w w.heap.size A n c ss) (hsz : ∀ s ∈ ss, s.size ≤ maxLen) (hch : ChsAt w w.heap.size v l) (hsm : SmallC l) (hT : T.size ≤ maxLen) :
    Calls Tryz.prog 5 #[.slice A n c, v, .int .i64 pl, .string T] w fun e w' => e = .returned (.bool true) ∧ Below w.heap.size w w' := by
  have haw := awake8_any w
  have hfew : Hid (∀ W, Below w.heap.size w W → Calls Tryz.prog 13 #[.slice (some ⟨W.heap.size, 0, none⟩) 1 1] (W.alloc (.cells #[v] 22)) fun e w' => e = .returned (.bool (decide (costR l ≤ 119))) ∧ Below w.heap.size w w') := Lib.hid fun W hb => by
    have hr := rows_one (hch.below hb (Nat.le_refl _)) hb.size
    refine (few8_any (W.heap.size + 1) _ [l] _ hr (by simp) (by simp) (fun l' hl' => by rw [List.mem_singleton.1 hl']; exact hsm)).mono ?_
    rintro e w' ⟨rfl, hb2⟩
    refine ⟨?_, (hb.alloc hb.size _).trans (hb2.mono (by have := hb.size; simp; omega))⟩
    have e1 : costs [l] = 1 + costR l := by simp [costs]
    rw [e1]
    congr 2
    rw [decide_eq_decide]
    omega
  have hsl := hS.len
  have Hch := Lib.hid hch
  have HS := Lib.hid (And.intro hS hsz)
  have HT := Lib.hid hT
  obtain ⟨ao, cap, rfl, _⟩ := hch
  obtain ⟨nl, hnl⟩ : ∃ nl, l.length = nl := ⟨_, rfl⟩
  rw [hnl] at Hch hfew ⊢
  unfold maxLen at hT
  clear hS hsz hsm hnl
  go_enter Tryz.func5, Tryz.ntmps5
  go_wp2_with fail
  refine haw.mono ?_
  rintro e w1 ⟨rfl, hb1⟩
  have hf := hfew.out w1 hb1
  clear hb1 haw hfew
  by_cases hc : costR l ≤ 119
  · have Hc := Lib.hid hc
    rw [decide_eq_true hc] at hf
    clear hc
    by_cases h8 : 8 < n
    · go_wp2_with fail
      refine hf.mono ?_
      rintro e w2 ⟨rfl, hb2⟩
      go_wp2
      go_ret
      exact ⟨rfl, hb2⟩
    · by_cases h64 : 64 < T.size
      · go_wp2_with fail
        refine hf.mono ?_
        rintro e w2 ⟨rfl, hb2⟩
        go_wp2
        go_ret
        exact ⟨rfl, hb2⟩
      · go_wp2_with fail
        refine hf.mono ?_
        rintro e w2 ⟨rfl, hb2⟩
        clear hf
        have hnew := snew_any w2.heap.size w2 (Nat.le_refl _) 40 (by omega) (by omega)
        have Hb2 := Lib.hid hb2
        clear hb2
        --@a
        go_wp2_with fail
        refine hnew.mono ?_
        rintro e w3 ⟨Nd, g, rfl, hD, hb3, hlo⟩
        have HD3 := Lib.hid (And.intro hD (And.intro (free_new 40) hb3))
        have Hlo := Lib.hid hlo
        clear hD hb3 hlo hnew
        go_wp2
        go_loopw [11] (fun iv wr => ∃ (i : Nat) (d : Dk), i ≤ n ∧ iv = .int .i64 i ∧ Hid (DiskAt wr w2.heap.size Nd g d ∧ FreeD d 40 i ∧ Below w2.heap.size w2 wr)) (fun iv _ => n - (intOf iv).toNat)
        case atStart => exact ⟨0, newD 40, by omega, rfl, Lib.hid HD3.out⟩
        case round =>
          obtain ⟨i, d, hi, rfl, HD⟩ := hrel
          clear HD3
          by_cases hlt : i < n
          · obtain ⟨b, off, rfl, hb, hcl⟩ := HS.out.1.at_ hlt
            have hx := HS.out.2 (ss.getD i ByteArray.empty) (by
              rw [List.getD, List.getElem?_eq_getElem (by omega)]
              exact List.getElem_mem _)
            have q0 := (HD.out.2.2.cell (p := ⟨b, off + i, none⟩) (by have := Hb2.out.size; show b < w2.heap.size; omega)).trans ((Hb2.out.cell (p := ⟨b, off + i, none⟩) hb).trans (hcl i hlt))
            obtain ⟨X, hX⟩ : ∃ X, ss.getD i ByteArray.empty = X := ⟨_, rfl⟩
            rw [hX] at q0 hx
            have hbz : b < wr.heap.size := by
              have := Hb2.out.size
              have := HD.out.2.2.size
              omega
            have hw := swrite_any w2.heap.size Nd g d wr HD.out.1 HD.out.2.2.size (by have := HD.out.2.1.wr; omega) (i : Int) X hx
            clear hcl hX hx
            --@b
            go_wp2_with fail
            refine hw.mono ?_
            rintro e w4 ⟨rfl, hD4, t4⟩
            have HD4 : Hid (DiskAt w4 w2.heap.size Nd g (writeD d i X.data.toList) ∧ FreeD (writeD d i X.data.toList) 40 (i + 1) ∧ Below w2.heap.size w2 w4) := Lib.hid ⟨hD4, HD.out.2.1.write _ _, HD.out.2.2.trans (t4.below HD.out.2.2.size fun b hb => (HD.out.1.blocks b hb).1)⟩
            clear hD4 t4 hw HD q0 hbz
            go_wp2
            go_roundw
            case rel => exact ⟨i + 1, _, by omega, by go_num, HD4⟩
            case measure => simp [intOf]; omega
          · obtain rfl : i = n := by omega
            have ho : Calls Tryz.prog 16 #[.pointer (some ⟨Nd, 0, none⟩), .int .i64 0, .int .i64 8] wr fun e w' => ∃ vp code, e = .returned (.tuple #[.pointer vp, .int .i64 code]) ∧ ((vp = none ∧ code = 7) ∨ (∃ N1, vp = some ⟨N1, 0, none⟩ ∧ code = 0)) ∧ Hid (DiskAt w' w2.heap.size Nd g d ∧ FreeD d 40 i ∧ Below w2.heap.size w2 w') := by
              refine (open_any w2.heap.size Nd g d wr HD.out.1 HD.out.2.2.size 0 8 (by omega) (by omega) (by omega) (by rw [HD.out.2.1.len]; omega)).mono ?_
              rintro e w' ⟨hb, hres⟩
              have hk : Hid (DiskAt w' w2.heap.size Nd g d ∧ FreeD d 40 i ∧ Below w2.heap.size w2 w') := Lib.hid ⟨HD.out.1.below hb, HD.out.2.1, HD.out.2.2.trans (hb.mono HD.out.2.2.size)⟩
              rcases hres with ⟨hdn, _⟩ | ⟨_, _, rfl⟩ | ⟨_, _, ps2, N2, m2, n2, cs2, _, rfl, _⟩
              · rw [HD.out.2.1.up] at hdn
                cases hdn
              · exact ⟨_, _, rfl, .inl ⟨rfl, rfl⟩, hk⟩
              · exact ⟨_, _, rfl, .inr ⟨_, rfl, rfl⟩, hk⟩
            clear HD
            --@c
            go_wp2_with fail
            refine ho.mono ?_
            rintro e w4 ⟨vp, code, rfl, hvc, HD4⟩
            clear ho
            have hmk := make_good2 w2.heap.size Nd g d w4 HD4.out.1 HD4.out.2.2.size (by have := HD4.out.2.1.wr; omega) HD4.out.2.1.up HD4.out.2.1.ca HD4.out.2.1.ah 8 32 (by omega) (by omega) (by omega) (by rw [HD4.out.2.1.len]; omega)
            have Hmk := Lib.hid hmk
            clear hmk
            have hx6 := code_no6 16 1 [] l
            obtain ⟨x, hx, hx6⟩ := hx6
            have hlen6 := len_commit 16 1 [] l
            have hcl := costR_len l
            obtain ⟨u6, hu6⟩ : ∃ u6, (commitP 16 (1, []) l).1.1 = u6 := ⟨_, rfl⟩
            obtain ⟨ps, hps⟩ : ∃ ps, (commitP 16 (1, []) l).1.2 = ps := ⟨_, rfl⟩
            have hcm : Hid (∀ N d5 W, LawS w2 W N Nd g 8 16 1 1 d5 [] → Calls Tryz.prog 19 #[.pointer (some ⟨N, 0, none⟩), .slice ao nl cap] W fun e W' => ∃ d', e = .returned (.int .i64 x) ∧ LawS w2 W' N Nd g 8 16 u6 2 d' ps ∧ d'.ss.length = d5.ss.length) := Lib.hid fun N d5 W hL => by
              have := law_commit hL (by omega) w.heap.size (.slice ao nl cap) l (Hch.out.below Hb2.out (Nat.le_refl _)) Hb2.out.size (by have := Hc.out; omega)
              rw [hx, hu6, hps] at this
              refine this.mono ?_
              rintro e W' ⟨d', rfl, h1, h2, _⟩
              exact ⟨d', rfl, h1, h2⟩
            have hps120 : ps.length ≤ 120 := by
              rw [hps] at hlen6
              have := Hc.out
              simp at hlen6
              omega
            obtain ⟨m, hpm⟩ : ∃ m, ps.length = m := ⟨_, rfl⟩
            have Hpm := Lib.hid hpm
            rw [hpm] at hps120
            have hml : (ps.map (·.1)).length = m := by rw [List.length_map]; exact hpm
            have hkl : ∀ i (hi : i < ps.length), ps[i].1.length ≤ 1000000 := fun i hi => by
              have hfb : FitP ps := by
                rw [← hps]
                exact fit_commit 16 1 l
              have := (hfb _ (List.getElem_mem hi)).1
              omega
            clear hx hlen6 hcl hu6 hps hpm HS
            have hT9 : ∀ (W W' : World) (N2 : Nat) (d7 : Dk), Hid (∃ m n cs st, StoreAt W w2.heap.size N2 Nd g m n cs st d7 ps ∧ n ≤ 10000000) → Below W.heap.size W W' → Hid (∃ m n cs st, StoreAt W' w2.heap.size N2 Nd g m n cs st d7 ps ∧ n ≤ 10000000) := fun W W' N2 d7 h hb => Lib.hid (by
              obtain ⟨m, n, cs, st, h1, h2⟩ := h.out
              exact ⟨m, n, cs, st, h1.below hb, h2⟩)
            have hopen : ∀ (W : World) (N : Nat) (d7 : Dk), LawS w2 W N Nd g 8 16 u6 3 d7 ps → d7.ss.length = 40 → Calls Tryz.prog 16 #[.pointer (some ⟨Nd, 0, none⟩), .int .i64 8, .int .i64 32] W fun e w' => ∃ N2, e = .returned (.tuple #[.pointer (some ⟨N2, 0, none⟩), .int .i64 0]) ∧ Hid (∃ m n cs st, StoreAt w' w2.heap.size N2 Nd g m n cs st d7 ps ∧ n ≤ 10000000) ∧ Hid (LawS w2 w' N Nd g 8 16 u6 3 d7 ps) := fun W N d7 hL hl => by
              refine (open_good W w2.heap.size N Nd g 8 16 u6 3 d7 ps hL.s hL.lo.size (by omega)).mono ?_
              rintro e w' ⟨N2, rfl, h1, _, hb⟩
              exact ⟨N2, rfl, Lib.hid h1, Lib.hid (hL.below hb)⟩
            have hkeysT : ∀ (W : World) (N2 : Nat) (d7 : Dk), Hid (∃ m n cs st, StoreAt W w2.heap.size N2 Nd g m n cs st d7 ps ∧ n ≤ 10000000) → Calls Tryz.prog 23 #[.pointer (some ⟨N2, 0, none⟩), .string ⟨#[]⟩] W fun e w' => ∃ A1 c1, e = .returned (.slice A1 m c1) ∧ Hid (OwnT9 W.heap.size w' (.slice A1 m c1) (ps.map (·.1))) ∧ Hid (∃ m n cs st, StoreAt w' w2.heap.size N2 Nd g m n cs st d7 ps ∧ n ≤ 10000000) ∧ Below W.heap.size W w' := fun W N2 d7 h => by
              obtain ⟨m2, n2, cs2, st2, h1, h2⟩ := h.out
              refine (keys_any w2.heap.size N2 Nd g m2 n2 cs2 st2 d7 ps W h1 (by omega) []).mono ?_
              rintro e w' ⟨v9, rfl, hown, hb9⟩
              rw [keysP_nil] at hown
              obtain ⟨ao9, cap9, rfl⟩ := slice_of hown
              rw [hml] at hown ⊢
              exact ⟨ao9, cap9, rfl, Lib.hid hown, hT9 _ _ _ _ h hb9, hb9⟩
            have hkeysS : ∀ (W : World) (N : Nat) (d7 : Dk), Hid (LawS w2 W N Nd g 8 16 u6 3 d7 ps) → Calls Tryz.prog 23 #[.pointer (some ⟨N, 0, none⟩), .string ⟨#[]⟩] W fun e w' => ∃ A1 c1, e = .returned (.slice A1 m c1) ∧ Hid (OwnT9 W.heap.size w' (.slice A1 m c1) (ps.map (·.1))) ∧ Hid (LawS w2 w' N Nd g 8 16 u6 3 d7 ps) ∧ Below W.heap.size W w' := fun W N d7 h => by
              refine (law_keys h.out (by omega) []).mono ?_
              rintro e w' ⟨v9, rfl, hown, hb9⟩
              rw [keysP_nil] at hown
              obtain ⟨ao9, cap9, rfl⟩ := slice_of hown
              rw [hml] at hown ⊢
              exact ⟨ao9, cap9, rfl, Lib.hid hown, Lib.hid (h.out.below hb9), hb9⟩
            have htexts : ∀ (W9 W10 : World) (B1 : Nat) (A1 A2 : Option Addr) (c1 c2 : Nat), Hid (OwnT9 B1 W9 (.slice A1 m c1) (ps.map (·.1))) → Hid (OwnT9 W9.heap.size W10 (.slice A2 m c2) (ps.map (·.1))) → Below W9.heap.size W9 W10 → Calls Tryz.prog 22 #[.slice A1 m c1, .slice A2 m c2] W10 fun e w' => e = .returned (.bool true) ∧ Below W10.heap.size W10 w' := fun W9 W10 B1 A1 A2 c1 c2 h1 h2 hb => by
              obtain ⟨A3, c3, e3, h3⟩ := OwnT9.strs (show OwnT9 B1 W10 (.slice A1 m c1) (ps.map (·.1)) from ownsRow_below4 h1.out hb)
              obtain ⟨A4, c4, e4, h4⟩ := OwnT9.strs h2.out
              obtain ⟨rfl, _, rfl⟩ := Value.slice.inj e3
              obtain ⟨rfl, _, rfl⟩ := Value.slice.inj e4
              rw [hml] at h3 h4
              have := rtexts_any W10.heap.size _ _ m m _ _ _ _ W10 h3 h4 (by omega) (by omega) (Nat.le_refl _)
              rw [decide_eq_true rfl] at this
              exact this
            have hgets : ∀ i (hi : i < ps.length), ∃ K V, textQ ((ps.map (·.1))[i]'(by rw [List.length_map]; exact hi)) = K ∧ (∀ (W : World) (N : Nat) (d7 : Dk), Hid (LawS w2 W N Nd g 8 16 u6 3 d7 ps) → Calls Tryz.prog 20 #[.pointer (some ⟨N, 0, none⟩), .string K] W fun e w' => e = .returned (.tuple #[.string V, .bool true]) ∧ Below W.heap.size W w') ∧
                (∀ (W : World) (N2 : Nat) (d7 : Dk), Hid (∃ m n cs st, StoreAt W w2.heap.size N2 Nd g m n cs st d7 ps ∧ n ≤ 10000000) → Calls Tryz.prog 20 #[.pointer (some ⟨N2, 0, none⟩), .string K] W fun e w' => e = .returned (.tuple #[.string V, .bool true]) ∧ Below W.heap.size W w') := fun i hi => by
              refine ⟨textQ ps[i].1, textQ ps[i].2, by rw [List.getElem_map], fun W N d7 h => ?_, fun W N2 d7 h => ?_⟩
              · have hf := find_in h.out.s.sorted (List.getElem_mem hi)
                have := law_get h.out ps[i].1 (by have := (h.out.s.fit _ (List.getElem_mem hi)).1; omega)
                rw [hf] at this
                exact this
              · obtain ⟨m2, n2, cs2, st2, h1, h2⟩ := h.out
                have hf := find_in h1.map.sorted (List.getElem_mem hi)
                have := get_any w2.heap.size N2 Nd g m2 n2 cs2 st2 d7 ps W h1 ps[i].1 (hkl i hi)
                rw [hf] at this
                exact this
            clear hml
            rcases hvc with ⟨rfl, rfl⟩ | ⟨N1, rfl, rfl⟩
            all_goals
              go_wp2_with fail
              refine Hmk.out.mono ?_
              rintro e w5 ⟨N, d5, rfl, hS5, hl5, _, _, t5⟩
              have hL5 : LawS w2 w5 N Nd g 8 16 1 1 d5 [] := ⟨hS5, HD4.out.2.2.trans (t5.below HD4.out.2.2.size fun b hb => (HD4.out.1.blocks b hb).1)⟩
              have hcm5 := hcm.out N d5 w5 hL5
              have hl5' : d5.ss.length = 40 := hl5.trans HD4.out.2.1.len
              rw [hl5'] at hcm5
              clear hS5 hl5 t5 hL5 hl5' Hmk HD4 hcm
              --@e
              go_wp2_with fail
              refine hcm5.mono ?_
              rintro e w6 ⟨d6, rfl, hL6, hl6⟩
              clear hcm5
              by_cases hp0 : 0 ≤ pl
              · by_cases hp8 : pl < 8
                · have hw := swrite_any w2.heap.size Nd g d6 w6 hL6.s.disk hL6.lo.size (by have := hL6.s.up; push_cast at this; omega) pl T HT.out
                  have HL6 := Lib.hid (And.intro hL6 hl6)
                  clear hL6 hl6
                  go_wp2_with fail
                  refine hw.mono ?_
                  rintro e w7 ⟨rfl, hD7, t7⟩
                  have hL7 : LawS w2 w7 N Nd g 8 16 u6 3 (writeD d6 pl T.data.toList) ps := ⟨HL6.out.1.s.beside hD7 hp0 (by omega) t7, HL6.out.1.lo.trans (t7.below HL6.out.1.lo.size fun b hb => (HL6.out.1.s.ltN.2.2 b hb).1)⟩
                  have hl7 : (writeD d6 pl T.data.toList).ss.length = 40 := by
                    have := HL6.out.2
                    unfold writeD
                    split
                    · unfold wroteD
                      split
                      · exact (List.length_set ..).trans this
                      · exact (List.length_set ..).trans this
                    · exact this
                  clear hD7 t7 hw HL6
                  go_wp2_with fail
                  refine (hopen _ _ _ hL7 hl7).mono ?_
                  rintro e w8 ⟨N2, rfl, HT2, HL8⟩
                  clear hL7 hl7
                  have hk1 := hkeysT w8 N2 _ HT2
                  go_wp2_with fail
                  refine hk1.mono ?_
                  rintro e w9 ⟨A1, c1, rfl, HR1, HT9, hb9⟩
                  have HL9 := Lib.hid (HL8.out.below hb9)
                  have hk2 := hkeysS w9 _ _ HL9
                  clear hk1 hb9 HT2 HL8
                  go_wp2_with fail
                  refine hk2.mono ?_
                  rintro e w10 ⟨A2, c2, rfl, HR2, HL10, hb10⟩
                  have HT10 := hT9 _ _ _ _ HT9 hb10
                  have htx := htexts w9 w10 _ A1 A2 c1 c2 HR1 HR2 hb10
                  clear hk2 hb10 HT9 HL9 HR1 HR2
                  go_wp2_with fail
                  refine htx.mono ?_
                  rintro e w11 ⟨rfl, hb11⟩
                  have HT11 := hT9 _ _ _ _ HT10 hb11
                  have HL11 := Lib.hid (HL10.out.below hb11)
                  have hk3 := hkeysS w11 _ _ HL11
                  clear htx hb11 HT10 HL10
                  go_wp2_with fail
                  refine hk3.mono ?_
                  rintro e w12 ⟨A3, c3, rfl, HR3, HL12, hb12⟩
                  have HT12 := hT9 _ _ _ _ HT11 hb12
                  clear hk3 hb12 HT11 HL11
                  go_wp2
                  go_loopw [19] (fun iv wr => ∃ i : Nat, i ≤ m ∧ iv = .int .i64 i ∧ Below w12.heap.size w12 wr) (fun iv _ => m - (intOf iv).toNat)
                  case atStart => exact ⟨0, by omega, rfl, Below.refl _ _⟩
                  case round =>
                    obtain ⟨i, hi, rfl, hbr⟩ := hrel
                    by_cases hlt : i < m
                    · have HLr := Lib.hid (HL12.out.below hbr)
                      have HTr := hT9 _ _ _ _ HT12 hbr
                      obtain ⟨b, cap3, hv3, _, hbz, hcb⟩ := own_cell (ownsRow_below4 HR3.out hbr) (i := i) (by rw [List.length_map, Hpm.out]; exact hlt)
                      obtain ⟨rfl, hmx, rfl⟩ := Value.slice.inj hv3
                      clear hmx hv3
                      obtain ⟨K, V, hK, hg1, hg2⟩ := hgets i (by rw [Hpm.out]; exact hlt)
                      rw [hK] at hcb
                      have g1 := hg1 _ _ _ HLr
                      clear hK hg1
                      go_wp2_with fail
                      refine g1.mono ?_
                      rintro e w13 ⟨rfl, hb13⟩
                      have HT13 := hT9 _ _ _ _ HTr hb13
                      have g2 := hg2 _ _ _ HT13
                      have hc13 := (hb13.cell (p := ⟨b, i, none⟩) hbz).trans hcb
                      have hbz13 : b < w13.heap.size := by have := hb13.size; omega
                      have hbr13 := hbr.trans (hb13.mono hbr.size)
                      clear g1 hg2 hb13 HT13 HTr HLr hcb hbz
                      go_wp2_with fail
                      refine g2.mono ?_
                      rintro e w14 ⟨rfl, hb14⟩
                      have hbr14 := hbr13.trans (hb14.mono hbr13.size)
                      clear g2 hb14 hbr13 hc13 hbz13 hbr
                      go_wp2
                      go_roundw
                      case rel => exact ⟨i + 1, by omega, by go_num, hbr14⟩
                      case measure => simp [intOf]; omega
                    · have hbf := HL12.out.lo.trans (hbr.mono HL12.out.lo.size)
                      have hbe := Hb2.out.trans (hbf.mono Hb2.out.size)
                      clear hbf hbr
                      go_wp2
                      go_ret
                      exact ⟨rfl, hbe⟩
                · have hL7 : LawS w2 w6 N Nd g 8 16 u6 3 d6 ps := ⟨hL6.s.more (by omega), hL6.lo⟩
                  have hl7 := hl6
                  clear hL6 hl6
                  go_wp2_with fail
                  refine (hopen _ _ _ hL7 hl7).mono ?_
                  rintro e w8 ⟨N2, rfl, HT2, HL8⟩
                  clear hL7 hl7
                  have hk1 := hkeysT w8 N2 _ HT2
                  go_wp2_with fail
                  refine hk1.mono ?_
                  rintro e w9 ⟨A1, c1, rfl, HR1, HT9, hb9⟩
                  have HL9 := Lib.hid (HL8.out.below hb9)
                  have hk2 := hkeysS w9 _ _ HL9
                  clear hk1 hb9 HT2 HL8
                  go_wp2_with fail
                  refine hk2.mono ?_
                  rintro e w10 ⟨A2, c2, rfl, HR2, HL10, hb10⟩
                  have HT10 := hT9 _ _ _ _ HT9 hb10
                  have htx := htexts w9 w10 _ A1 A2 c1 c2 HR1 HR2 hb10
                  clear hk2 hb10 HT9 HL9 HR1 HR2
                  go_wp2_with fail
                  refine htx.mono ?_
                  rintro e w11 ⟨rfl, hb11⟩
                  have HT11 := hT9 _ _ _ _ HT10 hb11
                  have HL11 := Lib.hid (HL10.out.below hb11)
                  have hk3 := hkeysS w11 _ _ HL11
                  clear htx hb11 HT10 HL10
                  go_wp2_with fail
                  refine hk3.mono ?_
                  rintro e w12 ⟨A3, c3, rfl, HR3, HL12, hb12⟩
                  have HT12 := hT9 _ _ _ _ HT11 hb12
                  clear hk3 hb12 HT11 HL11
                  go_wp2
                  go_loopw [19] (fun iv wr => ∃ i : Nat, i ≤ m ∧ iv = .int .i64 i ∧ Below w12.heap.size w12 wr) (fun iv _ => m - (intOf iv).toNat)
                  case atStart => exact ⟨0, by omega, rfl, Below.refl _ _⟩
                  case round =>
                    obtain ⟨i, hi, rfl, hbr⟩ := hrel
                    by_cases hlt : i < m
                    · have HLr := Lib.hid (HL12.out.below hbr)
                      have HTr := hT9 _ _ _ _ HT12 hbr
                      obtain ⟨b, cap3, hv3, _, hbz, hcb⟩ := own_cell (ownsRow_below4 HR3.out hbr) (i := i) (by rw [List.length_map, Hpm.out]; exact hlt)
                      obtain ⟨rfl, hmx, rfl⟩ := Value.slice.inj hv3
                      clear hmx hv3
                      obtain ⟨K, V, hK, hg1, hg2⟩ := hgets i (by rw [Hpm.out]; exact hlt)
                      rw [hK] at hcb
                      have g1 := hg1 _ _ _ HLr
                      clear hK hg1
                      go_wp2_with fail
                      refine g1.mono ?_
                      rintro e w13 ⟨rfl, hb13⟩
                      have HT13 := hT9 _ _ _ _ HTr hb13
                      have g2 := hg2 _ _ _ HT13
                      have hc13 := (hb13.cell (p := ⟨b, i, none⟩) hbz).trans hcb
                      have hbz13 : b < w13.heap.size := by have := hb13.size; omega
                      have hbr13 := hbr.trans (hb13.mono hbr.size)
                      clear g1 hg2 hb13 HT13 HTr HLr hcb hbz
                      go_wp2_with fail
                      refine g2.mono ?_
                      rintro e w14 ⟨rfl, hb14⟩
                      have hbr14 := hbr13.trans (hb14.mono hbr13.size)
                      clear g2 hb14 hbr13 hc13 hbz13 hbr
                      go_wp2
                      go_roundw
                      case rel => exact ⟨i + 1, by omega, by go_num, hbr14⟩
                      case measure => simp [intOf]; omega
                    · have hbf := HL12.out.lo.trans (hbr.mono HL12.out.lo.size)
                      have hbe := Hb2.out.trans (hbf.mono Hb2.out.size)
                      clear hbf hbr
                      go_wp2
                      go_ret
                      exact ⟨rfl, hbe⟩
              · have hL7 : LawS w2 w6 N Nd g 8 16 u6 3 d6 ps := ⟨hL6.s.more (by omega), hL6.lo⟩
                have hl7 := hl6
                clear hL6 hl6
                go_wp2_with fail
                refine (hopen _ _ _ hL7 hl7).mono ?_
                rintro e w8 ⟨N2, rfl, HT2, HL8⟩
                clear hL7 hl7
                have hk1 := hkeysT w8 N2 _ HT2
                go_wp2_with fail
                refine hk1.mono ?_
                rintro e w9 ⟨A1, c1, rfl, HR1, HT9, hb9⟩
                have HL9 := Lib.hid (HL8.out.below hb9)
                have hk2 := hkeysS w9 _ _ HL9
                clear hk1 hb9 HT2 HL8
                go_wp2_with fail
                refine hk2.mono ?_
                rintro e w10 ⟨A2, c2, rfl, HR2, HL10, hb10⟩
                have HT10 := hT9 _ _ _ _ HT9 hb10
                have htx := htexts w9 w10 _ A1 A2 c1 c2 HR1 HR2 hb10
                clear hk2 hb10 HT9 HL9 HR1 HR2
                go_wp2_with fail
                refine htx.mono ?_
                rintro e w11 ⟨rfl, hb11⟩
                have HT11 := hT9 _ _ _ _ HT10 hb11
                have HL11 := Lib.hid (HL10.out.below hb11)
                have hk3 := hkeysS w11 _ _ HL11
                clear htx hb11 HT10 HL10
                go_wp2_with fail
                refine hk3.mono ?_
                rintro e w12 ⟨A3, c3, rfl, HR3, HL12, hb12⟩
                have HT12 := hT9 _ _ _ _ HT11 hb12
                clear hk3 hb12 HT11 HL11
                go_wp2
                go_loopw [19] (fun iv wr => ∃ i : Nat, i ≤ m ∧ iv = .int .i64 i ∧ Below w12.heap.size w12 wr) (fun iv _ => m - (intOf iv).toNat)
                case atStart => exact ⟨0, by omega, rfl, Below.refl _ _⟩
                case round =>
                  obtain ⟨i, hi, rfl, hbr⟩ := hrel
                  by_cases hlt : i < m
                  · have HLr := Lib.hid (HL12.out.below hbr)
                    have HTr := hT9 _ _ _ _ HT12 hbr
                    obtain ⟨b, cap3, hv3, _, hbz, hcb⟩ := own_cell (ownsRow_below4 HR3.out hbr) (i := i) (by rw [List.length_map, Hpm.out]; exact hlt)
                    obtain ⟨rfl, hmx, rfl⟩ := Value.slice.inj hv3
                    clear hmx hv3
                    obtain ⟨K, V, hK, hg1, hg2⟩ := hgets i (by rw [Hpm.out]; exact hlt)
                    rw [hK] at hcb
                    have g1 := hg1 _ _ _ HLr
                    clear hK hg1
                    go_wp2_with fail
                    refine g1.mono ?_
                    rintro e w13 ⟨rfl, hb13⟩
                    have HT13 := hT9 _ _ _ _ HTr hb13
                    have g2 := hg2 _ _ _ HT13
                    have hc13 := (hb13.cell (p := ⟨b, i, none⟩) hbz).trans hcb
                    have hbz13 : b < w13.heap.size := by have := hb13.size; omega
                    have hbr13 := hbr.trans (hb13.mono hbr.size)
                    clear g1 hg2 hb13 HT13 HTr HLr hcb hbz
                    go_wp2_with fail
                    refine g2.mono ?_
                    rintro e w14 ⟨rfl, hb14⟩
                    have hbr14 := hbr13.trans (hb14.mono hbr13.size)
                    clear g2 hb14 hbr13 hc13 hbz13 hbr
                    go_wp2
                    go_roundw
                    case rel => exact ⟨i + 1, by omega, by go_num, hbr14⟩
                    case measure => simp [intOf]; omega
                  · have hbf := HL12.out.lo.trans (hbr.mono HL12.out.lo.size)
                    have hbe := Hb2.out.trans (hbf.mono Hb2.out.size)
                    clear hbf hbr
                    go_wp2
                    go_ret
                    exact ⟨rfl, hbe⟩
  · rw [decide_eq_false hc] at hf
    clear hc
    go_wp2_with fail
    refine hf.mono ?_
    rintro e w2 ⟨rfl, hb2⟩
    go_wp2
    go_ret
    exact ⟨rfl, hb2⟩
end Go.Proofs.YtcjmpkfcjcoobaaGreat
