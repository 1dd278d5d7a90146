/-
  Texts of this proof, put together: WRoom.
-/
import Derived.Test.YtcjmpkfcjcoobaaGreatX50
namespace Go.Proofs.YtcjmpkfcjcoobaaGreat
open Go.RowKit Go.Maps

/-- A store that was made by a law, and the law's memory. -/
structure LawS (w0 W : World) (N Nd g fr sz used c : Nat) (d : Dk) (ps : List PairP) : Prop where
  s : StoreG W w0.heap.size N Nd g fr sz used c d ps
  lo : Below w0.heap.size w0 W
section
variable {w0 W W' : World} {N Nd g fr sz used c : Nat} {d : Dk} {ps : List PairP}
theorem LawS.below (h : LawS w0 W N Nd g fr sz used c d ps) (hb : Below W.heap.size W W') : LawS w0 W' N Nd g fr sz used c d ps := ⟨h.s.below hb, h.lo.trans (hb.mono h.lo.size)⟩
theorem StoreG.more {B : Nat} (h : StoreG W B N Nd g fr sz used c d ps) {c' : Nat} (hc : c ≤ c') : StoreG W B N Nd g fr sz used c' d ps := by
  obtain ⟨m, n, cs, st, ts, h1, h2, h3, h4, h5, h6, h7, h8, h9, h10⟩ := h
  exact ⟨m, n, cs, st, ts, h1, h2, h3, h4, h5, h6, h7, by omega, by omega, by omega⟩
theorem commitP_nil (sz : Nat) (s : Nat × List PairP) : commitP sz s [] = (s, 0) := by
  unfold commitP
  rw [if_neg (fun h => h (fun c hc => by cases hc)), if_pos rfl]
/-- A row of changes that was handed over. -/
theorem law_commit (h : LawS w0 W N Nd g fr sz used c d ps) (hc : c ≤ 380) (BB : Nat) (v : Value) (l : List Ch) (hv : ChsAt w0 BB v l) (hBB : BB ≤ w0.heap.size) (hl : costR l ≤ 120) :
    Calls Tryz.prog 19 #[.pointer (some ⟨N, 0, none⟩), v] W fun e W' => ∃ d', e = .returned (.int .i64 (commitP sz (used, ps) l).2) ∧
      LawS w0 W' N Nd g fr sz (commitP sz (used, ps) l).1.1 (c + 1) d' (commitP sz (used, ps) l).1.2 ∧ d'.ss.length = d.ss.length ∧ Turned (MineG W N Nd g) W W' := by
  have hN := h.s.ltN
  have h1 := costR_len l
  by_cases h0 : l = []
  · subst h0
    rw [commitP_nil]
    refine (commit_none BB N v W (hv.below h.lo hBB) (Nat.le_trans hBB h.lo.size)).mono ?_
    rintro e W' ⟨rfl, hb⟩
    exact ⟨d, rfl, ⟨(h.s.below hb).more (Nat.le_succ _), h.lo.trans (hb.mono h.lo.size)⟩, rfl, Turned.of_below hb (Nat.le_refl _)⟩
  · refine (commit_good W w0.heap.size BB N Nd g fr sz used c d ps h.s h.lo.size hc v l (hv.below h.lo hBB) (Nat.le_trans hBB h.lo.size) (fun b hb => ?_) (by omega) (fun hf => ?_)).mono ?_
    · obtain ⟨ao, cap, rfl, _, _, hat⟩ := hv
      obtain ⟨g2, off, rfl, hg, _⟩ := hat 0 (List.length_pos_iff.2 h0)
      obtain rfl : g2 = b := Option.some.inj hb
      exact ⟨fun e => by have := hN.2.1; omega, fun e => by have := hN.2.2 _ e; omega⟩
    · have := cost_print l hf
      omega
    · rintro e W' ⟨d', rfl, hs, hl, _, ht, hb⟩
      exact ⟨d', rfl, ⟨hs, h.lo.trans hb⟩, hl, ht⟩
/-- One change, that the law lays itself, and that is taken. -/
theorem law_one (h : LawS w0 W N Nd g fr sz used c d ps) (hc : c ≤ 380) (k v : List UInt8) (gn : Bool) (ps' : List PairP) (hcp : ∃ u, commitP sz (used, ps) [⟨k, v, gn⟩] = ((u, ps'), 0)) (hf : k.length ≤ 65535 ∧ v.length ≤ 65535)
    (B0 : Nat) (vk : Value) (lk : List (List UInt8)) (hrow : OwnT9 B0 W vk lk) (hN0 : N < B0) (hd0 : ∀ b, mineD Nd g b → b < B0) :
    Calls Tryz.prog 19 #[.pointer (some ⟨N, 0, none⟩), .slice (some ⟨W.heap.size, 0, none⟩) 1 1] (W.alloc (.cells #[.string (textQ k), .string (textQ v), .bool gn] 25)) fun e W' => ∃ u d', e = .returned (.int .i64 0) ∧
      LawS w0 W' N Nd g fr sz u (c + 1) d' ps' ∧ d'.ss.length = d.ss.length ∧ OwnT9 B0 W' vk lk := by
  obtain ⟨u, hcp⟩ := hcp
  have hN := h.s.ltN
  have hba := (Below.refl _ W).alloc (Nat.le_refl _) (.cells #[.string (textQ k), .string (textQ v), .bool gn] 25)
  have hA := h.below hba
  have hrow2 := ownsRow_below4 hrow hba
  have hcg := commit_good _ w0.heap.size (W.heap.size + 1) N Nd g fr sz used c d ps hA.s hA.lo.size hc _ [⟨k, v, gn⟩] (chs_one W k v gn) (by simp) (fun b hb => by
    obtain rfl : W.heap.size = b := Option.some.inj hb
    exact ⟨fun e => by have := hN.1; omega, fun e => by have := (hN.2.2 _ e).2; omega⟩) (by simp) (fun hf2 => by
      have e : printL [⟨k, v, gn⟩] = printC ⟨k, v, gn⟩ := by unfold printL; rw [List.flatMap_cons, List.flatMap_nil, List.append_nil]
      have hs : (Ch.mk k v gn).says.length ≤ v.length := by
        unfold Ch.says
        split
        · simp
        · exact Nat.le_refl _
      rw [e, printC_len]
      have := hf.1
      have := hf.2
      show 5 + k.length + _ ≤ _
      omega)
  rw [hcp] at hcg
  refine hcg.mono ?_
  rintro e W' ⟨d', rfl, hs, hl, _, ht, hb⟩
  exact ⟨u, d', rfl, ⟨hs, hA.lo.trans hb⟩, hl, OwnT9.keepG hrow2 hN0 hd0 ht⟩
theorem law_get (h : LawS w0 W N Nd g fr sz used c d ps) (k : KeyP) (hk : k.length ≤ 1000000) :
    Calls Tryz.prog 20 #[.pointer (some ⟨N, 0, none⟩), .string (textQ k)] W fun e w' => e = .returned (.tuple #[.string (textQ ((findP ps k).getD [])), .bool (findP ps k).isSome]) ∧ Below W.heap.size W w' := by
  obtain ⟨m, n, cs, st, h1, _, _⟩ := h.s.at
  exact get_any _ N Nd g m n cs st d ps W h1 k hk
theorem law_keys (h : LawS w0 W N Nd g fr sz used c d ps) (hc : c ≤ 500) (pre : List UInt8) :
    Calls Tryz.prog 23 #[.pointer (some ⟨N, 0, none⟩), .string (textQ pre)] W fun e w' => ∃ v, e = .returned v ∧ OwnT9 W.heap.size w' v (keysP ps pre) ∧ Below W.heap.size W w' := by
  obtain ⟨m, n, cs, st, h1, h2, _⟩ := h.s.at
  exact keys_any _ N Nd g m n cs st d ps W h1 (by omega) pre
end

theorem own_cell {w : World} {B : Nat} {v : Value} {l : List (List UInt8)} (h : OwnT9 B w v l) {i : Nat} (hi : i < l.length) : ∃ b cap, v = .slice (some ⟨b, 0, none⟩) l.length cap ∧ B ≤ b ∧ b < w.heap.size ∧ w.cell? ⟨b, i, none⟩ = some (.string (textQ l[i])) := by
  rcases h.2 with ⟨rfl, e⟩ | ⟨b, cap, cur, rfl, hb, hg, h1, h3, _⟩
  · omega
  · have c1 := World.ownsRow.cells (g := b) h rfl i (.string (textQ l[i])) (by simp [hi])
    rw [Addr.add_lit, Nat.zero_add] at c1
    exact ⟨b, cap, rfl, hb, (Array.getElem?_eq_some_iff.1 hg).1, c1⟩

set_option maxRecDepth 100000 in
set_option maxHeartbeats 8000000 in
theorem wroom_walk (c0 : Int) (v : Value) (ls : List (List Ch)) (w : World) (h : RowsAt w w.heap.size v ls) (hls : ls.length ≤ 1000000000000000) (hsm : ∀ l ∈ ls, SmallC l) :
    Calls Tryz.prog 6 #[.int .i64 c0, v] w fun e w' => e = .returned (.bool true) ∧ Below w.heap.size w w' := by
  have haw := awake8_any w
  have hfew : ∀ W, Below w.heap.size w W → Calls Tryz.prog 13 #[v] W fun e w' => e = .returned (.bool (decide (costs ls ≤ 120))) ∧ Below W.heap.size W w' := fun W hb => few8_any w.heap.size v ls W (h.below hb (Nat.le_refl _)) hb.size hls hsm
  have Hfew := Lib.hid hfew
  obtain ⟨ao, cap, rfl, hc1, hc2, hat⟩ := h
  obtain ⟨n, hn⟩ : ∃ n, ls.length = n := ⟨_, rfl⟩
  have Hn := Lib.hid hn
  rw [hn] at hls Hfew ⊢
  unfold maxLen at hc2
  have Hat := Lib.hid hat
  clear hfew hsm hat hc1 hc2 hn
  go_enter Tryz.func6, Tryz.ntmps6
  go_wp2_with fail
  refine haw.mono ?_
  rintro e w1 ⟨rfl, hb1⟩
  have hf := Hfew.out w1 hb1
  have Hb1 := Lib.hid hb1
  clear hb1 haw Hfew
  by_cases hc : costs ls ≤ 120
  · have Hc := Lib.hid hc
    rw [decide_eq_true hc] at hf
    clear hc
    by_cases h4 : c0 < 4
    · go_wp2_with fail
      refine hf.mono ?_
      rintro e w2 ⟨rfl, hb2⟩
      have hb3 := Hb1.out.trans (hb2.mono Hb1.out.size)
      clear hb2
      go_wp2
      go_ret
      exact ⟨rfl, hb3⟩
    · by_cases h200 : 200 < c0
      · go_wp2_with fail
        refine hf.mono ?_
        rintro e w2 ⟨rfl, hb2⟩
        have hb3 := Hb1.out.trans (hb2.mono Hb1.out.size)
        clear hb2
        go_wp2
        go_ret
        exact ⟨rfl, hb3⟩
      · obtain ⟨ct, rfl⟩ : ∃ ct : Nat, c0 = (ct : Int) := ⟨c0.toNat, by omega⟩
        by_cases hodd : ct % 2 = 0
        · have hrem : ((ct : Int) % 2 != 0) = false := by
            rw [show (ct : Int) % 2 = 0 by omega]
            rfl
          go_wp2_with fail
          refine hf.mono ?_
          rintro e w2 ⟨rfl, hb2⟩
          have hb3 := Hb1.out.trans (hb2.mono Hb1.out.size)
          clear hb2 hf
          have hmade := made_any ct (by omega) hodd (by omega) w2
          have Hb3 := Lib.hid hb3
          clear hb3
          have Hat2 : Hid (∀ i (hi : i < ls.length), ∃ g off v', ao = some ⟨g, off, none⟩ ∧ g < w.heap.size ∧ w2.cell? ⟨g, off + i, none⟩ = some v' ∧ ChsAt w2 w.heap.size v' ls[i]) := Lib.hid fun i hi => by
            obtain ⟨g, off, v', e, hg, hcl, hch⟩ := Hat.out i hi
            exact ⟨g, off, v', e, hg, (Hb3.out.cell (p := ⟨g, off + i, none⟩) hg).trans hcl, hch.below Hb3.out (Nat.le_refl _)⟩
          have hn120 : n ≤ 120 := by
            have := costs_len ls
            have := Hc.out
            have := Hn.out
            omega
          go_wp2_with fail
          refine hmade.mono ?_
          rintro e w3 ⟨N, Nd, g, d, rfl, hS, hl, hb4⟩
          have Hodd := Lib.hid hodd
          have hS0 : LawS w2 w3 N Nd g 0 (ct / 2) 1 0 d [] := ⟨hS, hb4⟩
          have HS := Lib.hid (And.intro hS0 hl)
          clear hmade hS hl hb4 hS0 Hat Hb1 hrem hodd
          go_wp2
          go_loopw [7] (fun iv wr => ∃ (i used : Nat) (d : Dk) (ps : List PairP), i ≤ n ∧ iv = .int .i64 i ∧ Hid (LawS w2 wr N Nd g 0 (ct / 2) used i d ps) ∧ Hid (ps.length ≤ costs (ls.take i)) ∧ Hid (d.ss.length = ct)) (fun iv _ => n - (intOf iv).toNat)
          case atStart => exact ⟨0, 1, d, [], by omega, rfl, Lib.hid HS.out.1, Lib.hid (by simp), Lib.hid HS.out.2⟩
          case round =>
            obtain ⟨i, used, d, ps, hi, rfl, HL, Hps, Hd⟩ := hrel
            clear HS
            by_cases hlt : i < n
            · have hil : i < ls.length := by rw [Hn.out]; exact hlt
              obtain ⟨g2, off2, v', rfl, hg2, hcl, hch⟩ := Hat2.out i hil
              have hwz := HL.out.lo.size
              have hw2z := Hb3.out.size
              have q0 := (HL.out.lo.cell (p := ⟨g2, off2 + i, none⟩) (by show g2 < _; omega)).trans hcl
              have hgs : g2 < wr.heap.size := by omega
              have hmem := costR_mem (List.getElem_mem hil)
              have htk := costs_take ls i hil
              have hcr : costR ls[i] ≤ 120 := by
                have := Hc.out
                omega
              have hcm := law_commit HL.out (by omega) w.heap.size v' ls[i] hch hw2z hcr
              have hll := len_commit (ct / 2) used ps ls[i]
              have hcl2 := costR_len ls[i]
              obtain ⟨ao', cap', rfl, _⟩ := hch
              have Hx := Lib.hid (And.intro htk (And.intro hll hcl2))
              obtain ⟨l, hl⟩ : ∃ l, ls[i] = l := ⟨_, rfl⟩
              rw [hl] at q0 hcm Hx
              obtain ⟨nl, hnl⟩ : ∃ nl, l.length = nl := ⟨_, rfl⟩
              rw [hnl] at q0 hcm
              clear hcl hmem htk hcr hll hcl2 hl hwz hw2z hnl
              --@b
              go_wp2_with fail
              refine hcm.mono ?_
              rintro e w4 ⟨d', rfl, hS', hl', _⟩
              have HL' := Lib.hid hS'
              have Hd' : Hid (d'.ss.length = ct) := Lib.hid (hl'.trans Hd.out)
              have Hps' : Hid ((commitP (ct / 2) (used, ps) l).1.2.length ≤ costs (ls.take (i + 1))) := Lib.hid (by
                obtain ⟨h1, h2, h3⟩ := Hx.out
                have := Hps.out
                omega)
              clear hS' hl' hcm q0 HL Hd Hps Hx
              go_wp2
              go_roundw
              case rel => exact ⟨i + 1, _, d', _, by omega, by go_num, HL', Hps', Hd'⟩
              case measure => simp [intOf]; omega
            · obtain rfl : i = n := by omega
              have hm120 : ps.length ≤ 120 := by
                have := Hps.out
                have := costs_le ls i
                have := Hc.out
                omega
              have hk : Calls Tryz.prog 23 #[.pointer (some ⟨N, 0, none⟩), .string ⟨#[]⟩] wr fun e w' => ∃ v, e = .returned v ∧ OwnT9 wr.heap.size w' v (keysP ps []) ∧ Below wr.heap.size wr w' := law_keys HL.out (by omega) []
              rw [keysP_nil] at hk
              --@c
              go_wp2_with fail
              refine hk.mono ?_
              rintro e w4 ⟨v8, rfl, hown, hb5⟩
              have hN0 : N < wr.heap.size ∧ ∀ b, mineD Nd g b → b < wr.heap.size := ⟨HL.out.s.ltN.1, fun b hb => (HL.out.s.ltN.2.2 b hb).2⟩
              have HL4' := Lib.hid (HL.out.below hb5)
              generalize wr.heap.size = B0 at hN0 hown
              have HN0 := Lib.hid hN0
              have HL4 := Lib.hid (And.intro HL4'.out hown)
              clear HL4'
              obtain ⟨ao8, cap8, rfl⟩ := slice_of hown
              obtain ⟨m, hm⟩ : ∃ m, (ps.map (·.1)).length = m := ⟨_, rfl⟩
              have hpm : ps.length = m := by rw [← hm, List.length_map]
              have Hpm := Lib.hid hpm
              rw [hpm] at hm120
              rw [hm] at HL4 ⊢
              clear hN0 hown hb5 hk hm hpm HL Hps Hat2
              go_wp2
              go_loopw [9] (fun iv wr => ∃ (j used c : Nat) (d : Dk), j ≤ m ∧ iv = .int .i64 j ∧ c ≤ i + 2 * j ∧ Hid (LawS w2 wr N Nd g 0 (ct / 2) used c d (ps.drop j) ∧ OwnT9 B0 wr (.slice ao8 m cap8) (ps.map (·.1))) ∧ Hid (d.ss.length = ct)) (fun iv _ => m - (intOf iv).toNat)
              case atStart => exact ⟨0, used, i, d, by omega, rfl, by omega, Lib.hid HL4.out, Hd⟩
              case round =>
                obtain ⟨j, used, c, d, hj, rfl, hc, HL, Hd⟩ := hrel
                clear HL4 Hn Hc
                by_cases hjm : j < m
                · have hjl : j < ps.length := by rw [Hpm.out]; exact hjm
                  have hdr : ps.drop j = ps[j] :: ps.drop (j + 1) := List.drop_eq_getElem_cons hjl
                  obtain ⟨S, R⟩ := HL.out
                  have hfit := S.s.fit
                  have hsort := S.s.sorted
                  rw [hdr] at S hfit hsort
                  have hpf := hfit _ (List.mem_cons_self ..)
                  have hkl : j < (ps.map (·.1)).length := by rw [List.length_map]; exact hjl
                  have hkj : (ps.map (·.1))[j] = ps[j].1 := List.getElem_map ..
                  obtain ⟨p, hp⟩ : ∃ p, ps[j] = p := ⟨_, rfl⟩
                  rw [hp] at S hsort hpf hkj
                  obtain ⟨b, cap', hv8, hbb, hbz, hcb⟩ := own_cell R hkl
                  rw [hkj] at hcb
                  obtain ⟨rfl, hmx, rfl⟩ := Value.slice.inj hv8
                  clear hmx
                  obtain ⟨K, hK⟩ : ∃ K, textQ p.1 = K := ⟨_, rfl⟩
                  obtain ⟨V, hV⟩ : ∃ V, textQ p.2 = V := ⟨_, rfl⟩
                  have cg := law_get S p.1 (by have := hpf.1; omega)
                  rw [find_first, show (some p.2).getD [] = p.2 from rfl, show (some p.2).isSome = true from rfl, hK, hV] at cg
                  rw [hK] at hcb
                  have hcm := HN0.out
                  have hnx : ∀ (W : World) (u c2 : Nat) (d2 : Dk), LawS w2 W N Nd g 0 (ct / 2) u c2 d2 (p :: ps.drop (j + 1)) → OwnT9 B0 W (.slice (some ⟨b, 0, none⟩) m cap8) (ps.map (·.1)) → W.cell? ⟨b, j, none⟩ = some (.string K) ∧ b < W.heap.size := fun W u c2 d2 _ R2 => by
                    obtain ⟨b2, cap2, hv2, _, hbz2, hcb2⟩ := own_cell R2 hkl
                    obtain ⟨e, _, _⟩ := Value.slice.inj hv2
                    obtain ⟨rfl, _⟩ := Addr.mk.inj (Option.some.inj e)
                    rw [hkj, hK] at hcb2
                    exact ⟨hcb2, hbz2⟩
                  have Hnx := Lib.hid hnx
                  have Hsort := Lib.hid hsort
                  have Hpf := Lib.hid hpf
                  have HK := Lib.hid (And.intro hK hV)
                  have HSR := Lib.hid (And.intro S R)
                  clear hnx hsort hpf hK hV S R hfit hdr hkj hkl hv8 hcm hp hjl HL
                  --@e
                  go_wp2_with fail
                  refine cg.mono ?_
                  rintro e w5 ⟨rfl, hb6⟩
                  have S5 := HSR.out.1.below hb6
                  have R5 := ownsRow_below4 HSR.out.2 hb6
                  obtain ⟨q5, z5⟩ := Hnx.out w5 _ _ _ S5 R5
                  have c1 := law_one S5 (by omega) p.1 p.2 false (p :: ps.drop (j + 1)) (S5.s.same (find_first _ _) Hpf.out) Hpf.out B0 _ _ R5 HN0.out.1 HN0.out.2
                  rw [HK.out.1, HK.out.2] at c1
                  clear S5 R5 hb6 cg HSR hcb hbz
                  --@f
                  go_wp2_with fail
                  refine c1.mono ?_
                  rintro e w6 ⟨u6, d6, rfl, S6, hl6, R6⟩
                  obtain ⟨q6, z6⟩ := Hnx.out w6 _ _ _ S6 R6
                  have c2 := law_one S6 (by omega) p.1 [] true (ps.drop (j + 1)) (by
                    have := S6.s.gone Hpf.out.1
                    rw [gone_first Hsort.out] at this
                    exact this) ⟨Hpf.out.1, by simp⟩ B0 _ _ R6 HN0.out.1 HN0.out.2
                  rw [HK.out.1, show textQ [] = ⟨#[]⟩ from rfl] at c2
                  have Hl6 : Hid (d6.ss.length = ct) := Lib.hid (hl6.trans Hd.out)
                  clear S6 R6 hl6 c1 q5 z5
                  --@g
                  go_wp2_with fail
                  refine c2.mono ?_
                  rintro e w7 ⟨u7, d7, rfl, S7, hl7, R7⟩
                  obtain ⟨r, hr⟩ : ∃ r : Nat, m - (j + 1) = r := ⟨_, rfl⟩
                  have c3 : Calls Tryz.prog 23 #[.pointer (some ⟨N, 0, none⟩), .string ⟨#[]⟩] w7 fun e w' => ∃ ao9 cap9, e = .returned (.slice ao9 r cap9) ∧ LawS w2 w' N Nd g 0 (ct / 2) u7 (c + 1 + 1) d7 (ps.drop (j + 1)) ∧ OwnT9 B0 w' (.slice (some ⟨b, 0, none⟩) m cap8) (ps.map (·.1)) := by
                    refine (law_keys S7 (by omega) []).mono ?_
                    rintro e w' ⟨v9, rfl, hown, hb9⟩
                    rw [keysP_nil] at hown
                    obtain ⟨ao9, cap9, rfl⟩ := slice_of hown
                    refine ⟨ao9, cap9, ?_, S7.below hb9, ownsRow_below4 R7 hb9⟩
                    rw [List.length_map, List.length_drop, Hpm.out, hr]
                  have hr2 : ((r : Int) != (m : Int) - j - 1) = false := by
                    rw [show (m : Int) - j - 1 = (r : Int) by omega]
                    exact bne_self_eq_false _
                  have Hl7 : Hid (d7.ss.length = ct) := Lib.hid (hl7.trans Hl6.out)
                  clear S7 R7 hl7 c2 q6 z6 hr
                  --@h
                  go_wp2_with fail
                  refine c3.mono ?_
                  rintro e w8 ⟨ao9, cap9, rfl, S8, R8⟩
                  have HS8 := Lib.hid (And.intro S8 R8)
                  clear S8 R8 c3
                  --@i
                  go_wp2
                  go_roundw
                  case rel => exact ⟨j + 1, u7, c + 1 + 1, d7, by omega, by go_num, by omega, HS8, Hl7⟩
                  case measure => simp [intOf]; omega
                · obtain rfl : j = m := by omega
                  have hnil : ps.drop j = [] := List.drop_of_length_le (by rw [Hpm.out]; exact Nat.le_refl _)
                  have S := HL.out.1
                  rw [hnil] at S
                  have co := open_good wr w2.heap.size N Nd g 0 (ct / 2) used c d [] S.s S.lo.size (by omega)
                  rw [show 2 * (ct / 2) = ct by have := Hodd.out; omega] at co
                  have HSS := Lib.hid S
                  clear S hnil HL
                  --@j
                  go_wp2_with fail
                  refine co.mono ?_
                  rintro e w8 ⟨N2, rfl, ⟨m2, n2, cs2, st2, hst, hn2⟩, _, hb8⟩
                  have ck : Calls Tryz.prog 23 #[.pointer (some ⟨N2, 0, none⟩), .string ⟨#[]⟩] w8 fun e w' => ∃ ao9 cap9, e = .returned (.slice ao9 0 cap9) ∧ Below w.heap.size w w' := by
                    refine (keys_any w2.heap.size N2 Nd g m2 n2 cs2 st2 d [] w8 hst (by omega) []).mono ?_
                    rintro e w' ⟨v9, rfl, hown, hb9⟩
                    obtain ⟨ao9, cap9, rfl⟩ := slice_of hown
                    have h2 := HSS.out.lo
                    have h3 := h2.trans (hb8.mono h2.size)
                    have h4 := h3.trans (hb9.mono h3.size)
                    exact ⟨ao9, cap9, rfl, Hb3.out.trans (h4.mono Hb3.out.size)⟩
                  clear hst hb8 co hn2
                  --@k
                  go_wp2_with (go_at_call 23; refine ck.mono ?_; rintro e w9 ⟨ao9, cap9, rfl, hb9⟩)
                  go_ret
                  exact ⟨rfl, hb9⟩
        · have hrem : ((ct : Int) % 2 != 0) = true := by
            rw [show (ct : Int) % 2 = 1 by omega]
            rfl
          go_wp2_with fail
          refine hf.mono ?_
          rintro e w2 ⟨rfl, hb2⟩
          have hb3 := Hb1.out.trans (hb2.mono Hb1.out.size)
          clear hb2
          go_wp2
          go_ret
          exact ⟨rfl, hb3⟩
  · rw [decide_eq_false hc] at hf
    clear hc
    go_wp2_with fail
    refine hf.mono ?_
    rintro e w2 ⟨rfl, hb2⟩
    have hb3 := Hb1.out.trans (hb2.mono Hb1.out.size)
    clear hb2
    go_wp2
    go_ret
    exact ⟨rfl, hb3⟩
end Go.Proofs.YtcjmpkfcjcoobaaGreat
