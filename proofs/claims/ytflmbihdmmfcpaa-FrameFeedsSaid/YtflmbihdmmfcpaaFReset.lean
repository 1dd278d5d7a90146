/-
  FrameReset returns true, for any two texts: the walk.
-/
import Derived.Test.YtflmbihdmmfcpaaAwake6
import Derived.BigQuiet
namespace Go.Proofs.Ytflmbihdmmfcpaa
open Go.RowKit

theorem apart_new {N N' : Nat} (h : N ≠ N') : ApartF N (.slice none 0 0) N' (.slice none 0 0) := by
  rintro x (rfl | e) (e2 | e2)
  · exact h e2
  · cases e2
  · cases e
  · cases e
theorem framer_below {w w' : World} {B N : Nat} {v : Value} {r : List UInt8} {k : Int} (h : FramerAt w B N v r k) (hb : Below w.heap.size w w') : FramerAt w' B N v r k := FramerOf.keep (S := fun _ => False) h (Turned.of_below hb (Nat.le_refl _)) (fun _ _ h => h)
theorem lines_few {s r : List UInt8} {ls : List (List UInt8)} (h : linesQ s = ls ++ [r]) : ls.length ≤ s.length := by
  rw [whole_text h, List.length_append]
  have := whole_count ls
  omega

set_option maxRecDepth 100000 in
set_option maxHeartbeats 4000000 in
theorem freset_walk (a b : ByteArray) (m : Int) (w : World) (hm : w.cell? ⟨0, 0, none⟩ = some (.int .i64 m)) (ha : a.size ≤ maxLen) (hb : b.size ≤ maxLen) :
    Calls Try.prog 7 #[.string a, .string b] w fun e w' => e = .returned (.bool true) ∧ Below w.heap.size w w' := by
  have haw := awake6_any m w hm
  unfold maxLen at ha hb
  go_enter Try.func7, Try.ntmps7
  go_wp2_with fail
  refine haw.mono ?_
  rintro e w1 ⟨rfl, hw1⟩
  clear haw
  by_cases h1 : 3000 < a.size
  · go_wp2
    go_ret
    exact ⟨rfl, hw1⟩
  by_cases h2 : 3000 < b.size
  · go_wp2
    go_ret
    exact ⟨rfl, hw1⟩
  obtain ⟨la, ra, hla⟩ := lines_parts a.data.toList
  obtain ⟨lb, rb, hlb⟩ := lines_parts b.data.toList
  have hfew : lb.length ≤ 3000 := by
    have := lines_few hlb
    have h3 : b.data.toList.length = b.size := rfl
    omega
  have C1 : Hid (∀ W, Below w.heap.size w W → Calls Try.prog 17 #[.string b] W fun e w' => ∃ A c, e = .returned (.tuple #[.slice A (goodF lb rb).length c, .int .i64 (codeF rb)]) ∧ Strs w' w'.heap.size A (goodF lb rb).length c (textsF (goodF lb rb)) ∧ Below W.heap.size W w') := Lib.hid fun W hW => by
    refine (flines_any b m lb rb W (by omega) (bound_abide hm hW) hlb).mono ?_
    rintro e w' ⟨v, he, hr, hb⟩
    obtain ⟨A, c, rfl, hS⟩ := Strs.of_own hr
    exact ⟨A, c, he, hS, hb⟩
  have Hla := Lib.hid hla
  have Hlb := Lib.hid hlb
  have hbz := hw1.size
  clear hla hlb hm
  go_wp2_with fail
  refine (frnew_any w.heap.size w1 hbz).mono ?_
  rintro e w3 ⟨rfl, hF1, hb3, hl3⟩
  have hbw3 := hw1.trans (hb3.mono hbz)
  go_wp2_with fail
  refine (frnew_any w.heap.size w3 hbw3.size).mono ?_
  rintro e w4 ⟨rfl, hF2, hb4, hl4⟩
  have hbw4 := hbw3.trans (hb4.mono hbw3.size)
  have hF1 := framer_below hF1 hb4
  have hap := apart_new (show w1.heap.size ≠ w3.heap.size by omega)
  clear hb3 hb4 hbw3
  go_wp2_with fail
  refine (feed_any w.heap.size w1.heap.size _ [] ra la 0 a w4 hbw4.size hF1 rfl Hla.out (by omega) (by omega)).mono ?_
  rintro e w5 ⟨x, v1, rfl, _, hF1', ht5, hf1⟩
  have hF2 : FramerAt w5 w.heap.size w3.heap.size (.slice none 0 0) [] 0 := FramerOf.keep hF2 ht5 hap.symm
  have hbw5 : Below w.heap.size w w5 := hbw4.trans (ht5.below hbw4.size (fun b hb => (FramerOf.blocks hF1 b hb).1))
  have hne : w1.heap.size ≠ w3.heap.size := by omega
  have hF1 : FramerAt w5 w.heap.size w1.heap.size v1 ra ((a.size : Nat) : Int) := by simpa using hF1'
  have hres := frreset_any w.heap.size w1.heap.size v1 ra _ w5 hF1
  have hn2 : ∀ x, mineF w3.heap.size (.slice none 0 0) x → ¬ mineF w1.heap.size v1 x := by
    rintro x (rfl | e) (e2 | e2)
    · omega
    · rcases hf1 _ e2 with e3 | e3
      · cases e3
      · omega
    · cases e
    · cases e
  clear hF1' ht5 hf1 hap hbw4
  go_wp2_with fail
  refine hres.mono ?_
  rintro e w6 ⟨rfl, hF1', ht6⟩
  have hF2 : FramerAt w6 w.heap.size w3.heap.size (.slice none 0 0) [] 0 := FramerOf.keep hF2 ht6 hn2
  have hbw6 : Below w.heap.size w w6 := hbw5.trans (ht6.below hbw5.size (fun b hb => (FramerOf.blocks hF1 b hb).1))
  have hap := apart_new hne
  clear hres hF1 ht6 hn2 hbw5
  go_wp2_with fail
  refine (feed_any w.heap.size w1.heap.size _ [] rb lb a.size b w6 hbw6.size hF1' rfl Hlb.out (by omega) (by omega)).mono ?_
  rintro e w7 ⟨x, v1, rfl, hr1, hF1, ht7, hf1⟩
  have hap7 := hap.turn hF2 hf1
  have hF2' : FramerAt w7 w.heap.size w3.heap.size (.slice none 0 0) [] 0 := FramerOf.keep hF2 ht7 hap.symm
  have hbw7 : Below w.heap.size w w7 := hbw6.trans (ht7.below hbw6.size (fun b hb => (FramerOf.blocks hF1' b hb).1))
  clear hF1' hF2 ht7 hf1 hap hbw6
  go_wp2_with fail
  refine (feed_any w.heap.size w3.heap.size _ [] rb lb 0 b w7 hbw7.size hF2' rfl Hlb.out (by omega) (by omega)).mono ?_
  rintro e w8 ⟨y, v2, rfl, hr2, hF2, ht8, hf2⟩
  have hF1 : FramerAt w8 w.heap.size w1.heap.size v1 rb ((a.size + b.size : Nat) : Int) := FramerOf.keep hF1 ht8 hap7
  have hF2 : FramerAt w8 w.heap.size w3.heap.size v2 rb ((b.size : Nat) : Int) := by simpa using hF2
  have hr1' := ht8.row hr1 (FramerOf.row_no hF2' hr1 (by decide) (by decide))
  have hbw8 : Below w.heap.size w w8 := hbw7.trans (ht8.below hbw7.size (fun b hb => (FramerOf.blocks hF2' b hb).1))
  clear hF2' ht8 hf2 hap7 hbw7 hr1
  obtain ⟨ax, cx, rfl⟩ := row_slice hr1'
  obtain ⟨ay, cy, rfl⟩ := row_slice hr2
  have hwa := frwait_any _ _ _ _ _ _ hF1
  have hwb := frwait_any _ _ _ _ _ _ hF2
  have hfa := frfed_any _ _ _ _ _ _ hF1
  have hfb := frfed_any _ _ _ _ _ _ hF2
  have hsum : ((a.size + b.size : Nat) : Int) = (a.size : Int) + (b.size : Int) := by push_cast; rfl
  rw [hsum] at hfa
  obtain ⟨p, hp⟩ : ∃ p, waitF rb = p := ⟨_, rfl⟩
  rw [hp] at hwa hwb
  have Hp := Lib.hid hp
  have HF1 := Lib.hid hF1
  have Hx := Lib.hid hr1'
  have Hy := Lib.hid hr2
  clear hF1 hF2 hr1' hr2 hp hsum
  go_wp2_with fail
  refine hwa.mono ?_
  rintro e w9 ⟨rfl, h9⟩
  obtain rfl := h9.symm
  clear h9 hwa
  go_wp2_with fail
  refine hwb.mono ?_
  rintro e w9 ⟨rfl, h9⟩
  obtain rfl := h9.symm
  clear h9 hwb
  go_wp2_with fail
  refine hfa.mono ?_
  rintro e w9 ⟨rfl, h9⟩
  obtain rfl := h9.symm
  clear h9 hfa
  go_wp2_with fail
  refine hfb.mono ?_
  rintro e w9 ⟨rfl, h9⟩
  obtain rfl := h9.symm
  clear h9 hfb
  go_wp2_with fail
  refine (C1.out _ hbw8).mono ?_
  rintro e w9 ⟨A, c, rfl, hS, hb9⟩
  have hbw9 := hbw8.trans (hb9.mono hbw8.size)
  have HF9 := Lib.hid (framer_below HF1.out hb9)
  have hx9 := ownsRow_below4 Hx.out hb9
  have hy9 := ownsRow_below4 Hy.out hb9
  have Hx9 := Lib.hid hx9
  have Hy9 := Lib.hid hy9
  clear C1 HF1 Hx Hy hb9 hbw8 hx9 hy9
  go_wp2
  by_cases hr : rb = []
  · subst hr
    rw [show goodF lb [] = lb from rfl] at hS
    rw [show goodF lb [] = lb from rfl, show codeF [] = 0 from rfl]
    go_loopw [11] (fun iv W => ∃ i : Nat, i ≤ lb.length ∧ iv = .int .i64 i ∧ Below w9.heap.size w9 W ∧ Below w.heap.size w W) (fun iv _ => lb.length - (intOf iv).toNat)
    case atStart => exact ⟨0, by omega, rfl, Below.refl _ _, hbw9⟩
    case round =>
      obtain ⟨i, hi1, rfl, hgr, hbr2⟩ := hrel
      by_cases hlt : i < lb.length
      · rcases row_lines Hx9.out with ⟨h0, _⟩ | ⟨g1, cg1, he, _, hg1l, hgc1⟩
        · rw [h0] at hlt
          cases hlt
        rcases row_lines Hy9.out with ⟨h0, _⟩ | ⟨g2, cg2, he2, _, hg2l, hgc2⟩
        · rw [h0] at hlt
          cases hlt
        simp only [Value.slice.injEq, true_and] at he he2
        obtain ⟨rfl, rfl⟩ := he
        obtain ⟨rfl, rfl⟩ := he2
        obtain ⟨g3, o3, rfl, _, q3⟩ := (hS.below hgr).at_ hlt
        have s1 := q3 i hlt
        rw [texts_get lb i hlt] at s1
        obtain ⟨p1, p2⟩ := hgc1 i hlt
        obtain ⟨r1, r2⟩ := hgc2 i hlt
        obtain ⟨l, hl⟩ : ∃ l, lb[i] = l := ⟨_, rfl⟩
        rw [hl] at s1 p1 p2 r1 r2
        rw [← hgr.cell (p := ⟨g1, i * 2, none⟩) hg1l] at p1
        rw [← hgr.cell (p := ⟨g1, i * 2 + 1, none⟩) hg1l] at p2
        rw [← hgr.cell (p := ⟨g2, i * 2, none⟩) hg2l] at r1
        rw [← hgr.cell (p := ⟨g2, i * 2 + 1, none⟩) hg2l] at r2
        have k1 : (0 : Int) ≤ (i : Int) := by omega
        have k2 : (i : Int) < (lb.length : Int) := by omega
        have k3 : decide (lb.length ≤ i) = false := decide_eq_false (by omega)
        have hzl : (textQ l).size = l.length := rfl
        by_cases hlong : 998 < l.length
        · have h8 : longF l = true := by unfold longF; exact decide_eq_true hlong
          obtain ⟨Y, hY⟩ : ∃ Y, textQ (keptF l) = Y := ⟨_, rfl⟩
          obtain ⟨Z, hZ⟩ : ∃ Z, textQ l = Z := ⟨_, rfl⟩
          rw [h8] at p2 r2
          rw [hY] at p1 r1
          rw [hZ] at s1 hzl
          have h9 : decide ((998 : Int) < (Z.size : Int)) = true := decide_eq_true (by omega)
          clear hgc1 hgc2 q3 hl h8 hY hZ hzl hlong
          go_wp2
          go_quiet (fail)
          go_wp2
          go_roundw
          case rel => exact ⟨i + 1, by omega, by go_num, below_drewN hgr _, below_drewN hbr2 _⟩
          case measure => simp [intOf]; omega
        · have h8 : longF l = false := by unfold longF; exact decide_eq_false hlong
          obtain ⟨Z, hZ⟩ : ∃ Z, textQ l = Z := ⟨_, rfl⟩
          rw [h8] at p2 r2
          rw [kept_short h8, hZ] at p1 r1
          rw [hZ] at s1 hzl
          have h9 : decide ((998 : Int) < (Z.size : Int)) = false := decide_eq_false (by omega)
          clear hgc1 hgc2 q3 hl h8 hZ hzl hlong
          go_wp2
          go_quiet (fail)
          go_wp2
          go_roundw
          case rel => exact ⟨i + 1, by omega, by go_num, below_drewN hgr _, below_drewN hbr2 _⟩
          case measure => simp [intOf]; omega
      · obtain rfl : i = lb.length := by omega
        have hwt := frwait_any _ _ _ _ _ _ (framer_below HF9.out hgr)
        rw [show ((waitF [] : Nat) : Int) = 0 by rfl] at hwt
        go_wp2_with fail
        refine hwt.mono ?_
        rintro e w10 ⟨rfl, h10⟩
        obtain rfl := h10.symm
        clear h10 hwt
        go_wp2
        go_ret
        exact ⟨rfl, hbr2⟩
  · rw [show goodF lb rb = [] by unfold goodF; rw [if_neg hr], show codeF rb = 2 by unfold codeF; rw [if_neg hr]]
    rw [show goodF lb rb = [] by unfold goodF; rw [if_neg hr]] at hS
    clear hr hS
    go_loopw [11] (fun iv W => ∃ i : Nat, i ≤ lb.length ∧ iv = .int .i64 i ∧ Below w9.heap.size w9 W ∧ Below w.heap.size w W) (fun iv _ => lb.length - (intOf iv).toNat)
    case atStart => exact ⟨0, by omega, rfl, Below.refl _ _, hbw9⟩
    case round =>
      obtain ⟨i, hi1, rfl, hgr, hbr2⟩ := hrel
      by_cases hlt : i < lb.length
      · rcases row_lines Hx9.out with ⟨h0, _⟩ | ⟨g1, cg1, he, _, hg1l, hgc1⟩
        · rw [h0] at hlt
          cases hlt
        rcases row_lines Hy9.out with ⟨h0, _⟩ | ⟨g2, cg2, he2, _, hg2l, hgc2⟩
        · rw [h0] at hlt
          cases hlt
        simp only [Value.slice.injEq, true_and] at he he2
        obtain ⟨rfl, rfl⟩ := he
        obtain ⟨rfl, rfl⟩ := he2
        obtain ⟨p1, p2⟩ := hgc1 i hlt
        obtain ⟨r1, r2⟩ := hgc2 i hlt
        obtain ⟨Y, hY⟩ : ∃ Y, textQ (keptF lb[i]) = Y := ⟨_, rfl⟩
        obtain ⟨lo, hlo⟩ : ∃ lo, longF lb[i] = lo := ⟨_, rfl⟩
        rw [hY] at p1 r1
        rw [hlo] at p2 r2
        rw [← hgr.cell (p := ⟨g1, i * 2, none⟩) hg1l] at p1
        rw [← hgr.cell (p := ⟨g1, i * 2 + 1, none⟩) hg1l] at p2
        rw [← hgr.cell (p := ⟨g2, i * 2, none⟩) hg2l] at r1
        rw [← hgr.cell (p := ⟨g2, i * 2 + 1, none⟩) hg2l] at r2
        have k1 : (0 : Int) ≤ (i : Int) := by omega
        have k2 : (i : Int) < (lb.length : Int) := by omega
        clear hgc1 hgc2 hY hlo
        go_wp2
        go_quiet (fail)
        go_wp2
        go_roundw
        case rel => exact ⟨i + 1, by omega, by go_num, below_drewN hgr _, below_drewN hbr2 _⟩
        case measure => simp [intOf]; omega
      · obtain rfl : i = lb.length := by omega
        go_wp2
        go_ret
        exact ⟨rfl, hbr2⟩
end Go.Proofs.Ytflmbihdmmfcpaa
