/-
  SectorPlays returns true, for any size and any acts: the walk.
-/
import Derived.Test.YtjmphdpeaahmfaaAwake7
import Derived.Test.YtjmphdpeaahmfaaFew7
import Derived.Test.YtjmphdpeaahmfaaSecD
import Derived.Test.YtjmphdpeaahmfaaR7W
import Derived.BigQuiet
import Derived.Deep.CutBlock
namespace Go.Proofs.Ytjmphdpeaahmfaa
open Go.RowKit Go.Maps

/-- The document's disk in a block of its own. -/
def MAt (w : World) (m : Nat) (v : Value) (d : Dk) : Prop := w.heap[m]? = some (.cells #[v, .int .i64 (refA d), .int .i64 (refT d), .int .i64 (d.wr - d.ah), .bool d.down, .int .i64 d.wr] 33 (0, 0))
/-- All of a round: the disk d, the document's disk e, and what lay below. -/
structure PlayAt (w0 W : World) (N g m : Nat) (v : Value) (d e : Dk) : Prop where
  disk : DiskAt W w0.heap.size N g d
  mem : MAt W m v e
  row : RefAt W w0.heap.size v e
  bel : Below w0.heap.size w0 W
  mge : w0.heap.size ≤ m
theorem DiskAt.no_mem {W : World} {B N g m : Nat} {d : Dk} {cs : Array Value} (h : DiskAt W B N g d) (hm : W.heap[m]? = some (.cells cs 33 (0, 0))) : ¬ mineD N g m := by
  obtain ⟨cap, rest, _, _, h3, h4⟩ := h.mem
  rintro (rfl | rfl)
  · rw [hm] at h3
    simp at h3
  · rw [hm] at h4
    simp at h4
theorem DiskAt.no_row {W : World} {B B2 N g n : Nat} {d : Dk} {v : Value} {xs : List Value} (h : DiskAt W B N g d) (hr : W.ownsRow B2 9 1 v n xs) : ∀ b, v.ownBlock = some b → ¬ mineD N g b := by
  obtain ⟨cap, rest, _, _, h3, h4⟩ := h.mem
  intro b hb hm
  obtain ⟨_, cur, hc⟩ := row_block hr hb
  rcases hm with rfl | rfl
  · rw [hc] at h3
    simp at h3
  · rw [hc] at h4
    simp at h4
/-- The disk goes on; the document's one lies as it lay. -/
theorem PlayAt.turn {w0 W W' : World} {N g m : Nat} {v : Value} {d d' e : Dk} (h : PlayAt w0 W N g m v d e) (hd : DiskAt W' w0.heap.size N g d') (t : Turned (mineD N g) W W') : PlayAt w0 W' N g m v d' e :=
  ⟨hd, (t.block m (Array.getElem?_eq_some_iff.1 h.mem).1 (h.disk.no_mem h.mem)).trans h.mem, t.row h.row (h.disk.no_row h.row), h.disk.turned_below h.bel t, h.mge⟩
/-- The document's one goes on; the disk lies as it lay. -/
theorem PlayAt.remem {w0 W : World} {N g m : Nat} {v v' : Value} {d e e' : Dk} (h : PlayAt w0 W N g m v d e) (hr : RefAt W w0.heap.size v' e') :
    PlayAt w0 (set6 W m v' (.int .i64 (refA e')) (.int .i64 (refT e')) (.int .i64 (e'.wr - e'.ah)) (.bool e'.down) (.int .i64 e'.wr)) N g m v' d e' :=
  ⟨h.disk.keep (turned_six (S := fun b => b = m) rfl) (fun b hb e3 => h.disk.no_mem h.mem (e3 ▸ hb)), heap_six h.mem, row_six hr h.mem (by decide), below_six h.bel h.mge h.bel.size, h.mge⟩
theorem PlayAt.below {w0 W W' : World} {N g m : Nat} {v : Value} {d e : Dk} (h : PlayAt w0 W N g m v d e) (hb : Below W.heap.size W W') : PlayAt w0 W' N g m v d e :=
  ⟨h.disk.below hb, (hb.block m (Array.getElem?_eq_some_iff.1 h.mem).1).trans h.mem, h.row.below hb, h.bel.trans (hb.mono h.bel.size), h.mge⟩
/-- Another disk goes on; all lies as it lay. -/
theorem PlayAt.other {w0 W W' : World} {N g N' g' m : Nat} {v : Value} {d e o : Dk} (h : PlayAt w0 W N' g' m v d e) (ho : DiskAt W w0.heap.size N g o) (ha : ∀ b, mineD N' g' b → ¬ mineD N g b) (t : Turned (mineD N g) W W') : PlayAt w0 W' N' g' m v d e :=
  ⟨h.disk.keep t ha, (t.block m (Array.getElem?_eq_some_iff.1 h.mem).1 (ho.no_mem h.mem)).trans h.mem, t.row h.row (ho.no_row h.row), ho.turned_below h.bel t, h.mge⟩
theorem PlayAt.alloc {w0 W : World} {N g m : Nat} {v : Value} {d e : Dk} (h : PlayAt w0 W N g m v d e) (o : Obj) : PlayAt w0 (W.alloc o) N g m v d e := h.below ((Below.refl _ W).alloc (Nat.le_refl _) o)

set_option maxRecDepth 100000 in
set_option maxHeartbeats 8000000 in
theorem splays_walk (size : Int) (n c : Nat) (A : Option Addr) (la : List ActS) (w : World) (hA : Acts w A n la) :
    Calls Try.prog 3 #[.int .i64 size, .slice A n c] w fun e w' => e = .returned (.bool true) ∧ Below w.heap.size w w' := by
  have haw := awake7_any w
  have HA := Lib.hid hA
  go_enter Try.func3, Try.ntmps3
  go_wp2_with fail
  refine haw.mono ?_
  rintro e w1 ⟨rfl, hb1⟩
  clear haw
  have hfew := few7_any n c A la w1 (HA.out.below hb1 (Nat.le_refl _))
  have hln := hA.nil_len
  obtain ⟨fw, hfw⟩ : ∃ fw, fewA la = fw := ⟨_, rfl⟩
  rw [hfw] at hfew
  cases fw with
  | false =>
    have Hb := Lib.hid hb1
    clear hb1 hA
    go_wp2_with (go_at_call 8; refine hfew.mono ?_; rintro e w9 ⟨rfl, h9⟩; obtain rfl := h9.symm; clear h9)
    go_ret
    exact ⟨rfl, Hb.out⟩
  | true =>
    obtain ⟨hn200, hd500⟩ := fewA_true hfw
    have Hd500 := Lib.hid hd500
    clear hA hd500 hfw
    by_cases h300 : 300 < size ∧ size ≤ 4096
    · obtain ⟨h3, h4⟩ := h300
      have Hb := Lib.hid hb1
      clear hb1
      go_wp2_with (go_at_call 8; refine hfew.mono ?_; rintro e w9 ⟨rfl, h9⟩; obtain rfl := h9.symm; clear h9)
      go_ret
      exact ⟨rfl, Hb.out⟩
    by_cases hbad : size < 1 ∨ 4096 < size
    · have hnew := snew_bad w1 size hbad
      have Hb := Lib.hid hb1
      clear hb1
      rcases hbad with hs | hs
      · go_wp2_with (first | (go_at_call 8; refine hfew.mono ?_; rintro e w9 ⟨rfl, h9⟩; obtain rfl := h9.symm; clear h9) | (go_at_call 9; refine hnew.mono ?_; rintro e w9 ⟨rfl, h9⟩; obtain rfl := h9.symm; clear h9))
        go_ret
        exact ⟨rfl, Hb.out⟩
      · go_wp2_with (first | (go_at_call 8; refine hfew.mono ?_; rintro e w9 ⟨rfl, h9⟩; obtain rfl := h9.symm; clear h9) | (go_at_call 9; refine hnew.mono ?_; rintro e w9 ⟨rfl, h9⟩; obtain rfl := h9.symm; clear h9))
        go_ret
        exact ⟨rfl, Hb.out⟩
    obtain ⟨z, rfl⟩ : ∃ z : Nat, size = z := ⟨size.toNat, by omega⟩
    have hz1 : 1 ≤ z := by omega
    have hz2 : z ≤ 300 := by omega
    clear h300 hbad
    go_wp2_with (go_at_call 8; refine hfew.mono ?_; rintro e w9 ⟨rfl, h9⟩; obtain rfl := h9.symm; clear h9)
    clear hfew
    refine (snew_any w.heap.size w1 hb1.size z hz1 (by omega)).mono ?_
    rintro e w2 ⟨N, g, rfl, hD2, hb2, _⟩
    have hB2 := hb1.trans (hb2.mono hb1.size)
    clear hb1 hb2
    have hnew := dnew_any z hz1 (by omega) w2
    have HD2 := Lib.hid (And.intro hD2 hB2)
    clear hD2 hB2
    go_wp2_with fail
    refine hnew.mono ?_
    rintro e w3 ⟨v, rfl, hr3, hb3⟩
    have hr3' : RefAt w3 w.heap.size v (newD z) := row_more hr3 (HD2.out.2.size)
    obtain ⟨g0, cap0, rfl, _, _, _⟩ := hr3.slice (by show 0 < (List.replicate z _).length; rw [List.length_replicate]; omega)
    rw [show (newD z).ss.length = z from List.length_replicate ..] at hr3' ⊢
    have hB3 := HD2.out.2.trans (hb3.mono HD2.out.2.size)
    have hD3 := HD2.out.1.below hb3
    have hP : PlayAt w (w3.alloc (.cells #[.slice (some ⟨g0, 0, none⟩) z cap0, .int .i64 0, .int .i64 0, .int .i64 0, .bool false, .int .i64 0] 33)) N g w3.heap.size (.slice (some ⟨g0, 0, none⟩) z cap0) (newD z) (newD z) :=
      ⟨hD3.alloc _, heap_alloc_new w3 _, hr3'.below ((Below.refl _ w3).alloc (Nat.le_refl _) _), hB3.alloc hB3.size _, hB3.size⟩
    have HP := Lib.hid hP
    clear hP hD3 hB3 hr3 hr3' hb3 hnew HD2
    rw [show refV (.slice (some ⟨g0, 0, none⟩) z cap0) (newD z) = .agg #[.slice (some ⟨g0, 0, none⟩) z cap0, .int .i64 0, .int .i64 0, .int .i64 0, .bool false, .int .i64 0] from rfl]
    go_wp2_with fail
    have hP := HP.out
    clear HP
    generalize w3.alloc (.cells #[.slice (some ⟨g0, 0, none⟩) z cap0, .int .i64 0, .int .i64 0, .int .i64 0, .bool false, .int .i64 0] 33) = w4 at hP ⊢
    generalize w3.heap.size = m at hP ⊢
    go_loopw [5, 8, 9, 10, 11, 12, 13, 14, 15, 16] (fun dv iv _ _ _ _ _ _ _ _ W => ∃ (i N g : Nat) (v : Value) (d : Dk), dv = .pointer (some ⟨N, 0, none⟩) ∧ iv = .int .i64 i ∧ i ≤ n ∧ d.ss.length = z ∧ d.wr ≤ i ∧ Hid (PlayAt w W N g m v d d)) (fun _ iv _ _ _ _ _ _ _ _ _ => n - (intOf iv).toNat)
    case atStart => exact ⟨0, N, g, _, newD z, rfl, rfl, by omega, List.length_replicate .., Int.le_refl _, Lib.hid hP⟩
    case round =>
      clear hP
      obtain ⟨i, N, g, v, d, rfl, rfl, hi, hdl, hdw, HP⟩ := hrel
      by_cases hlt : i < n
      · obtain ⟨ab, off, hl, rfl, hbl, a0, a1, a2, a3, a4⟩ := (HA.out.below HP.out.bel (Nat.le_refl _)).at_ hlt
        have hd5 := Hd500.out _ (List.getElem_mem hl)
        obtain ⟨kd, hkd⟩ : ∃ kd, la[i].kind = kd := ⟨_, rfl⟩
        obtain ⟨ps, hps⟩ : ∃ ps, la[i].pos = ps := ⟨_, rfl⟩
        obtain ⟨x, hx⟩ : ∃ x, la[i].data = x := ⟨_, rfl⟩
        obtain ⟨ca, hca⟩ : ∃ ca, la[i].ca = ca := ⟨_, rfl⟩
        obtain ⟨ct, hct⟩ : ∃ ct, la[i].ct = ct := ⟨_, rfl⟩
        rw [hkd] at a0
        rw [hps] at a1
        rw [hx] at a2 hd5
        rw [hca] at a3
        rw [hct] at a4
        clear hkd hps hx hca hct
        have hP := HP.out
        obtain ⟨g0, cap0, rfl, _, _, _⟩ := hP.row.slice (by omega)
        rw [hdl] at hP
        have hdp : d.wr ≤ 1000000 := by omega
        have hP5 : PlayAt w (wr.alloc (.cells #[.int .i64 kd, .int .i64 ps, .string x, .int .i64 ca, .int .i64 ct] 36)) N g m (.slice (some ⟨g0, 0, none⟩) z cap0) d d := hP.below ((Below.refl _ wr).alloc (Nat.le_refl _) _)
        have hq := heap_alloc_new wr (.cells #[.int .i64 kd, .int .i64 ps, .string x, .int .i64 ca, .int .i64 ct] 36)
        have HP5 := Lib.hid (And.intro hP5 hq)
        clear hP HP hP5 hq HA
        go_upto_block 2 with fail
        obtain ⟨hP5, hq⟩ := HP5.out
        clear HP5 a0 a1 a2 a3 a4 hbl
        generalize wr.alloc (.cells #[.int .i64 kd, .int .i64 ps, .string x, .int .i64 ca, .int .i64 ct] 36) = w5 at hP5 hq ⊢
        generalize wr.heap.size = q at hq ⊢
        have HP5 := Lib.hid hP5
        have b1 : w5.cell? ⟨q, 1, none⟩ = some (.int .i64 ps) := by rw [Lib.cell_of_heap hq]; rfl
        have b2 : w5.cell? ⟨q, 2, none⟩ = some (.string x) := by rw [Lib.cell_of_heap hq]; rfl
        have b3 : w5.cell? ⟨q, 3, none⟩ = some (.int .i64 ca) := by rw [Lib.cell_of_heap hq]; rfl
        have b4 : w5.cell? ⟨q, 4, none⟩ = some (.int .i64 ct) := by rw [Lib.cell_of_heap hq]; rfl
        have Hq := Lib.hid hq
        obtain ⟨c0, c1, c2, c3, c4, c5, cf⟩ := cells_six hP5.mem
        clear hP5 hq
        go_cut [5, 10, 11, 12, 13, 14, 15, 16] from 58 to 156 (fun dv _ _ _ _ _ _ _ wx => ∃ (N g : Nat) (v : Value) (d : Dk), dv = .pointer (some ⟨N, 0, none⟩) ∧ d.ss.length = z ∧ d.wr ≤ i + 1 ∧ Hid (PlayAt w wx N g m v d d))
        case first =>
          by_cases k0 : kd = 0
          · subst k0
            have hdw0 := dwrite_any w.heap.size d (.slice (some ⟨g0, 0, none⟩) z cap0) w5 HP5.out.row HP5.out.bel.size HP5.out.disk.ok (by omega) (by omega) hdp ps x (by omega)
            have hlen' := write_len d ps x.data.toList
            have hwr' : (writeD d ps x.data.toList).wr ≤ d.wr + 1 := by have := write_wr d ps x.data.toList; omega
            have hsw : ∀ W, DiskAt W w.heap.size N g d → w.heap.size ≤ W.heap.size → Calls Try.prog 12 #[.pointer (some ⟨N, 0, none⟩), .int .i64 ps, .string x] W fun e w' => e = .returned (.int .i64 (sayD d ps x.data.toList)) ∧ DiskAt w' w.heap.size N g (writeD d ps x.data.toList) ∧ Turned (mineD N g) W w' :=
              fun W hW hB => swrite_any w.heap.size N g d W hW hB hdp ps x (by unfold maxLen; omega)
            obtain ⟨d', hd'⟩ : ∃ d', writeD d ps x.data.toList = d' := ⟨_, rfl⟩
            obtain ⟨F, hF⟩ : ∃ F, sayD d ps x.data.toList = F := ⟨_, rfl⟩
            rw [hd', hF] at hdw0
            rw [hd'] at hlen' hwr'
            have Hsw := Lib.hid hsw
            have Hdf := Lib.hid (And.intro hd' hF)
            clear hsw hd' hF
            go_wp2_with fail
            refine hdw0.mono ?_
            rintro e w6 ⟨v', rfl, hr6, hb6⟩
            obtain ⟨g1, cap1, rfl, _, _, _⟩ := hr6.slice (by omega)
            rw [hlen', hdl] at hr6
            rw [show refV (.slice (some ⟨g1, 0, none⟩) d'.ss.length cap1) d' = .agg #[.slice (some ⟨g1, 0, none⟩) z cap1, .int .i64 (refA d'), .int .i64 (refT d'), .int .i64 (d'.wr - d'.ah), .bool d'.down, .int .i64 d'.wr] by unfold refV; rw [hlen', hdl]]
            have hP6 := HP5.out.below hb6
            have hql : q < w5.heap.size := (Array.getElem?_eq_some_iff.1 Hq.out).1
            have hP7 := (hP6.remem hr6).alloc (.cells #[.slice (some ⟨g1, 0, none⟩) z cap1, .int .i64 (refA d'), .int .i64 (refT d'), .int .i64 (d'.wr - d'.ah), .bool d'.down, .int .i64 d'.wr] 33)
            obtain ⟨y0, y1, y2, y3, y4, y5, yf⟩ := cells_six hP6.mem
            have x1 : w6.cell? ⟨q, 1, none⟩ = some (.int .i64 ps) := (hb6.cell (p := ⟨q, 1, none⟩) hql).trans b1
            have x2 : w6.cell? ⟨q, 2, none⟩ = some (.string x) := (hb6.cell (p := ⟨q, 2, none⟩) hql).trans b2
            have hqm : q ≠ m := fun e3 => by
              have h3 := HP5.out.mem
              unfold MAt at h3
              rw [← e3, Hq.out] at h3
              simp at h3
            have hwr := Hsw.out _ hP7.disk hP7.bel.size
            rw [Hdf.out.1, Hdf.out.2] at hwr
            have HP7 := Lib.hid hP7
            have hm6 : m < w6.heap.size := (Array.getElem?_eq_some_iff.1 hP6.mem).1
            have hq6 : q < w6.heap.size := Nat.lt_of_lt_of_le hql hb6.size
            clear hdw0 hP6 hP7 hr6 hb6 b1 b2 b3 b4 c0 c1 c2 c3 c4 c5 cf
            go_wp2_with fail
            refine hwr.mono ?_
            rintro e w8 ⟨rfl, hD8, t8⟩
            have HP8 := Lib.hid (HP7.out.turn hD8 t8)
            have hal : d'.ss.length = z := by omega
            clear hwr HP7 hD8 t8 x1 x2 y0 y1 y2 y3 y4 y5 yf hlen'
            go_wp2_with fail
            go_meet
            exact ⟨N, g, _, d', rfl, hal, by omega, HP8⟩
          by_cases k1 : kd = 1
          · subst k1
            have hdr := dread_any w.heap.size d (.slice (some ⟨g0, 0, none⟩) z cap0)
            have hsr := sread_any _ _ _ _ _ HP5.out.disk ps
            obtain ⟨X, hX⟩ : ∃ X : ByteArray, ⟨(if checkD d ps = 0 then d.ss.getD ps.toNat [] else []).toArray⟩ = X := ⟨_, rfl⟩
            obtain ⟨F, hF⟩ : ∃ F, checkD d ps = F := ⟨_, rfl⟩
            have hdr1 := hdr w5 HP5.out.row (by omega) ps
            rw [hX, hF] at hsr hdr1
            clear b2 b3 b4 hdr
            go_wp2_with (go_at_call 13; refine hsr.mono ?_; rintro e w9 ⟨rfl, h9⟩; obtain rfl := h9.symm; clear h9)
            refine hdr1.mono ?_
            rintro e w6 ⟨rfl, hb6⟩
            have HP6 := Lib.hid (HP5.out.below hb6)
            clear hsr hdr1 hb6 b1 c0 c1 c2 c3 c4 c5 cf
            go_wp2_with fail
            go_meet
            exact ⟨N, g, _, d, rfl, hdl, by omega, HP6⟩
          by_cases k2 : kd = 2
          · subst k2
            have harm := arm_any _ N g _ _ ca ct HP5.out.disk
            clear b1 b2
            go_wp2_with fail
            refine harm.mono ?_
            rintro e w6 ⟨rfl, hD6, t6⟩
            have hP6 := HP5.out.turn hD6 t6
            have hq6 := t6.heap Hq.out (fun e3 => by
              obtain ⟨cc, rest, _, _, h3, h4⟩ := HP5.out.disk.mem
              rcases e3 with e3 | e3
              · rw [← e3, Hq.out] at h3
                simp at h3
              · rw [← e3, Hq.out] at h4
                simp at h4)
            have x3 : w6.cell? ⟨q, 3, none⟩ = some (.int .i64 ca) := by rw [Lib.cell_of_heap hq6]; rfl
            have x4 : w6.cell? ⟨q, 4, none⟩ = some (.int .i64 ct) := by rw [Lib.cell_of_heap hq6]; rfl
            obtain ⟨y0, y1, y2, y3, y4, y5, yf⟩ := cells_six hP6.mem
            have hda := darm_any d ca ct (some ⟨g0, 0, none⟩) z cap0 w6
            have HP6 := Lib.hid hP6
            clear harm hD6 t6 hP6 hq6 b3 b4 c0 c1 c2 c3 c4 c5 cf
            go_wp2_with fail
            refine hda.mono ?_
            rintro e w7 ⟨rfl, hb7⟩
            have hP7 := HP6.out.below hb7
            have hr7 : RefAt w7 w.heap.size (.slice (some ⟨g0, 0, none⟩) z cap0) (armD d ca ct) := hP7.row
            have HP8 := Lib.hid (hP7.remem hr7)
            obtain ⟨x0, x1, x2, x3, x4, x5, xf⟩ := cells_six hP7.mem
            have hal : (armD d ca ct).ss.length = z := hdl
            have haw2 : (armD d ca ct).wr ≤ d.wr := Int.le_refl _
            rw [show refV (.slice (some ⟨g0, 0, none⟩) z cap0) (armD d ca ct) = .agg #[.slice (some ⟨g0, 0, none⟩) z cap0, .int .i64 (refA (armD d ca ct)), .int .i64 (refT (armD d ca ct)), .int .i64 ((armD d ca ct).wr - (armD d ca ct).ah), .bool (armD d ca ct).down, .int .i64 (armD d ca ct).wr] from rfl]
            generalize armD d ca ct = d' at HP8 hal haw2 ⊢
            clear hda hb7 hP7 hr7 y0 y1 y2 y3 y4 y5 yf
            go_wp2_with fail
            go_meet
            exact ⟨N, g, _, d', rfl, hal, by omega, HP8⟩
          by_cases k3 : kd = 3
          · subst k3
            have harm := sstart_any _ N g _ _ HP5.out.disk
            clear b1 b2 b3 b4
            go_wp2_with fail
            refine harm.mono ?_
            rintro e w6 ⟨rfl, hD6, t6⟩
            have hP6 := HP5.out.turn hD6 t6
            obtain ⟨y0, y1, y2, y3, y4, y5, yf⟩ := cells_six hP6.mem
            have hda := dstart_any d (some ⟨g0, 0, none⟩) z cap0 w6
            have HP6 := Lib.hid hP6
            clear harm hD6 t6 hP6 c0 c1 c2 c3 c4 c5 cf
            go_wp2_with fail
            refine hda.mono ?_
            rintro e w7 ⟨rfl, hb7⟩
            have hP7 := HP6.out.below hb7
            have hr7 : RefAt w7 w.heap.size (.slice (some ⟨g0, 0, none⟩) z cap0) (startD d) := hP7.row
            have HP8 := Lib.hid (hP7.remem hr7)
            obtain ⟨x0, x1, x2, x3, x4, x5, xf⟩ := cells_six hP7.mem
            have hal : (startD d).ss.length = z := hdl
            have haw2 : (startD d).wr ≤ d.wr := Int.le_refl _
            rw [show refV (.slice (some ⟨g0, 0, none⟩) z cap0) (startD d) = .agg #[.slice (some ⟨g0, 0, none⟩) z cap0, .int .i64 (refA (startD d)), .int .i64 (refT (startD d)), .int .i64 ((startD d).wr - (startD d).ah), .bool (startD d).down, .int .i64 (startD d).wr] from rfl]
            generalize startD d = d' at HP8 hal haw2 ⊢
            clear hda hb7 hP7 hr7 y0 y1 y2 y3 y4 y5 yf
            go_wp2_with fail
            go_meet
            exact ⟨N, g, _, d', rfl, hal, by omega, HP8⟩
          by_cases k4 : kd = 4
          · subst k4
            have hcp := scopy_any _ N g _ _ HP5.out.disk HP5.out.bel.size (by omega)
            clear b1 b2 b3 b4 c0 c1 c2 c3 c4 c5 cf
            go_wp2_with fail
            refine hcp.mono ?_
            rintro e w6 ⟨N', g', rfl, hD6, hb6, hnew⟩
            have hO6 := HP5.out.disk.below hb6
            have hap : ∀ b, mineD N' g' b → ¬ mineD N g b := fun b h1 h2 => by
              have := hnew b h1
              have := (HP5.out.disk.blocks b h2).2
              omega
            have hP5' := HP5.out.below hb6
            have hP6 : PlayAt w w6 N' g' m (.slice (some ⟨g0, 0, none⟩) z cap0) d d := ⟨hD6, hP5'.mem, hP5'.row, hP5'.bel, hP5'.mge⟩
            have hst := sstart_any _ N g _ _ hO6
            have HP6 := Lib.hid (And.intro hP6 (And.intro hO6 hap))
            clear hcp hD6 hb6 hnew hO6 hap hP5' hP6
            go_wp2_with fail
            refine hst.mono ?_
            rintro e w7 ⟨rfl, hO7, t7⟩
            have hP7 := HP6.out.1.other HP6.out.2.1 HP6.out.2.2 t7
            have hwo := swrite_any _ N g _ w7 hO7 hP7.bel.size hdp 0 ⟨#[111, 116, 104, 101, 114]⟩ (by decide)
            have HP7 := Lib.hid (And.intro hP7 hO7)
            clear hst t7 hO7 hP7
            go_wp2_with fail
            refine hwo.mono ?_
            rintro e w8 ⟨rfl, hO8, t8⟩
            have HP8 := Lib.hid (HP7.out.1.other HP7.out.2 HP6.out.2.2 t8)
            clear hwo hO8 t8 HP7
            go_wp2_with fail
            go_meet
            exact ⟨N', g', _, d, rfl, hdl, by omega, HP8⟩
          have e0 : (kd == 0) = false := by rw [beq_eq_false_iff_ne]; exact k0
          have e1 : (kd == 1) = false := by rw [beq_eq_false_iff_ne]; exact k1
          have e2 : (kd == 2) = false := by rw [beq_eq_false_iff_ne]; exact k2
          have e3 : (kd == 3) = false := by rw [beq_eq_false_iff_ne]; exact k3
          have e4 : (kd == 4) = false := by rw [beq_eq_false_iff_ne]; exact k4
          clear b1 b2 b3 b4 c0 c1 c2 c3 c4 c5 cf k0 k1 k2 k3 k4
          go_wp2_with fail
          go_meet
          exact ⟨N, g, _, d, rfl, hdl, by omega, HP5⟩
        case rest =>
          clear b1 b2 b3 b4 c0 c1 c2 c3 c4 c5 cf HP5 hdl hdw hdp Hq
          obtain ⟨N, g, v, d, rfl, hdl, hdw, HP⟩ := hcut
          obtain ⟨g0, cap0, rfl, _, _, _⟩ := HP.out.row.slice (by omega)
          obtain ⟨c0, c1, c2, c3, c4, c5, cf⟩ := cells_six HP.out.mem
          have hdn : ∀ q, Calls Try.prog 20 #[.pointer (some ⟨N, 0, none⟩)] (wc.drewN q) fun e w' => e = .returned (.bool d.down) ∧ w' = wc.drewN q := fun q => down_any _ _ _ _ _ (HP.out.disk.below (below_drewN (Below.refl wc.heap.size _) q))
          have hws : ∀ q, Calls Try.prog 21 #[.pointer (some ⟨N, 0, none⟩)] (wc.drewN q) fun e w' => e = .returned (.int .i64 d.wr) ∧ w' = wc.drewN q := fun q => writes_any _ _ _ _ _ (HP.out.disk.below (below_drewN (Below.refl wc.heap.size _) q))
          have hsz : ∀ q, Calls Try.prog 22 #[.pointer (some ⟨N, 0, none⟩)] (wc.drewN q) fun e w' => e = .returned (.int .i64 (z : Int)) ∧ w' = wc.drewN q := fun q => by
            have := size_any _ _ _ _ _ (HP.out.disk.below (below_drewN (Below.refl wc.heap.size _) q))
            rw [hdl] at this
            exact this
          obtain ⟨dn, hdn2⟩ : ∃ dn, d.down = dn := ⟨_, rfl⟩
          obtain ⟨wv, hwv⟩ : ∃ wv, d.wr = wv := ⟨_, rfl⟩
          rw [hdn2] at hdn c4
          rw [hwv] at hws c5
          have HH := Lib.hid (And.intro hdl hdw)
          clear hdn2 hwv hdl hdw c0 c1 c2 c3
          go_wp2_with fail
          cases dn with
          | true =>
            go_quiet (first | (go_at_call 20; exact Calls.quiet_of_same (hdn _)) | (go_at_call 21; exact Calls.quiet_of_same (hws _)) | (go_at_call 22; exact Calls.quiet_of_same (hsz _)))
            have HP9 := Lib.hid (HP.out.below (below_drewN (Below.refl wc.heap.size _) nq))
            clear hdn hws hsz c4 c5 cf
            go_wp2
            go_roundw
            case rel => exact ⟨i + 1, N, g, _, d, rfl, by go_num, by omega, HH.out.1, by have := HH.out.2; push_cast; omega, HP9⟩
            case measure => simp [intOf]; omega
          | false =>
            go_quiet (first | (go_at_call 20; exact Calls.quiet_of_same (hdn _)) | (go_at_call 21; exact Calls.quiet_of_same (hws _)) | (go_at_call 22; exact Calls.quiet_of_same (hsz _)))
            have HP9 := Lib.hid (HP.out.below (below_drewN (Below.refl wc.heap.size _) nq))
            clear hdn hws hsz c4 c5 cf
            go_wp2
            go_roundw
            case rel => exact ⟨i + 1, N, g, _, d, rfl, by go_num, by omega, HH.out.1, by have := HH.out.2; push_cast; omega, HP9⟩
            case measure => simp [intOf]; omega
      · obtain rfl : i = n := by omega
        obtain ⟨g0, cap0, rfl, _, _, _⟩ := HP.out.row.slice (by omega)
        rw [hdl] at HP
        have hst := sstart_any _ N g _ _ HP.out.disk
        go_wp2_with fail
        refine hst.mono ?_
        rintro e w6 ⟨rfl, hD6, t6⟩
        have HP6 := Lib.hid (HP.out.turn hD6 t6)
        clear hst HP hD6 t6 HA Hd500
        go_wp2_with fail
        go_loopw [17, 18, 19] (fun jv _ _ W => ∃ j : Nat, j ≤ z ∧ jv = .int .i64 j ∧ Hid (PlayAt w W N g m (.slice (some ⟨g0, 0, none⟩) z cap0) (startD d) d)) (fun jv _ _ _ => z - (intOf jv).toNat)
        case atStart => exact ⟨0, by omega, rfl, HP6⟩
        case round =>
          clear HP6
          obtain ⟨j, hj, rfl, HP⟩ := hrel
          by_cases hjz : j < z
          · have hjl : j < d.ss.length := by omega
            have hr := sread_ok _ N g (startD d) _ HP.out.disk rfl j hjl
            obtain ⟨g1, cap1, e1, _, _, hcells⟩ := HP.out.row.slice (by omega)
            have m3 : (0 : Int) ≤ (j : Int) := by omega
            have m4 : (j : Int) < (z : Int) := by omega
            cases e1
            have k1 := hcells j hjl
            obtain ⟨c0, _, _, _, _, _, _⟩ := cells_six HP.out.mem
            change Calls _ _ _ _ fun e w' => e = .returned (.tuple #[.string (textD d.ss[j]), .int .i64 0]) ∧ _ at hr
            obtain ⟨X, hX⟩ : ∃ X, textD d.ss[j] = X := ⟨_, rfl⟩
            rw [hX] at hr k1
            clear hX hcells
            go_wp2_with (go_at_call 13; refine hr.mono ?_; rintro e w9 ⟨rfl, h9⟩; obtain rfl := h9.symm; clear h9)
            exact ⟨⟨j + 1, by omega, by go_num, HP⟩, by simp [intOf]; omega⟩
          · obtain rfl : j = z := by omega
            have Hb := Lib.hid HP.out.bel
            clear HP
            go_wp2
            go_ret
            exact ⟨rfl, Hb.out⟩
end Go.Proofs.Ytjmphdpeaahmfaa
