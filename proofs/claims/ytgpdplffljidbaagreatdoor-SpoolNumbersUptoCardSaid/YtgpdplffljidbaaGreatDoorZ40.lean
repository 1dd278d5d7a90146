/-
  Texts of this proof, put together: Awake16.
-/
import Derived.Test.YtgpdplffljidbaaGreatDoorZ39
namespace Go.Proofs.YtgpdplffljidbaaGreatDoor
open Go.RowKit Go.Maps

def xA16 : ItemS := ⟨0, [97], [98], [116], 1, 0, 1⟩
def xB16 : ItemS := ⟨1, [97], [98], [116], 1, 0, 1⟩
theorem right_A : rightS xA16 = true := by decide
theorem fieldWCh (a b : ByteArray) (g : Bool) (w : World) : (Instr.field 50 (.agg #[.string a, .string b, .bool g]) 2).run Tryz.prog w = .ok (.bool g) w := by kernel_rfl
theorem add_A : addS 0 [xA16] = [⟨keyS 1, textS xA16, false⟩, ⟨[113], Lib.decDigits 1, false⟩] := by
  unfold addS
  rw [if_neg (by simp)]
  rfl
theorem row_first {W : World} {B : Nat} {ao : Option Addr} {n cap : Nat} {cs : List Ch} (h : OwnC9 B W (.slice ao n cap) cs) (h0 : 0 < cs.length) : ∃ b, ao = some ⟨b, 0, none⟩ ∧ n ≤ cap ∧ cap ≤ maxLen ∧ W.cell? ⟨b, 0, none⟩ = some (.string (textQ cs[0].key)) := by
  rcases h.2 with ⟨e, e2⟩ | ⟨b, cap2, cur, e, hb, hg, h1, h3, _⟩
  · omega
  · have e' := e
    injection e' with e1 e2 e3
    subst e1 e2 e3
    obtain ⟨q1, _, _⟩ := chs_at cs 0 h0
    have c1 := World.ownsRow.cells (g := b) h rfl _ _ q1
    rw [Addr.add_lit] at c1
    exact ⟨b, rfl, h1, h3, c1⟩

set_option maxRecDepth 100000 in
set_option maxHeartbeats 4000000 in
theorem awake16_any (w : World) (hp : PowIs w) : Calls Tryz.prog 8 #[] w fun e w' => e = .returned (.bool true) ∧ Below w.heap.size w w' := by
  have hmade := made_any 200 (by omega) (by omega) (by omega) w
  have Hp := Lib.hid hp
  clear hp
  go_enter Tryz.func8, Tryz.ntmps8
  go_wp2_with fail
  refine hmade.mono ?_
  rintro e w1 ⟨N, Nd, g, d, rfl, hs, hlen, hb⟩
  have hs : StoreG w1 w.heap.size N Nd g 0 100 1 0 d [] := hs
  have q1 : LawQ w w1 N Nd g 100 1 0 d [] [] 0 := lawq_new hs hb Hp.out
  obtain ⟨l1, l2, l3⟩ := hs.ltN
  obtain ⟨w2, hw2⟩ : ∃ w2, w1.alloc (.cells #[.int .i64 0, .string ⟨#[97]⟩, .string ⟨#[98]⟩, .string ⟨#[116]⟩, .int .i64 1, .int .i64 0, .int .i64 1] 44) = w2 := ⟨_, rfl⟩
  have b2 : Below w1.heap.size w1 w2 := by rw [← hw2]; exact (Below.refl _ _).alloc (Nat.le_refl _) _
  have i2 : ItAt w2 w1.heap.size 0 ⟨#[97]⟩ ⟨#[98]⟩ ⟨#[116]⟩ 1 0 1 := by rw [← hw2]; exact it_new w1 _ _ _ _ _ _ _
  obtain ⟨w3, hw3⟩ : ∃ w3, w2.alloc (.cells #[.int .i64 0, .string ⟨#[97]⟩, .string ⟨#[98]⟩, .string ⟨#[116]⟩, .int .i64 1, .int .i64 0, .int .i64 1] 44) = w3 := ⟨_, rfl⟩
  have b3 : Below w2.heap.size w2 w3 := by rw [← hw3]; exact (Below.refl _ _).alloc (Nat.le_refl _) _
  have r3 : ItemsAt w3 (w2.heap.size + 1) (.slice (some ⟨w2.heap.size, 0, none⟩) 1 1) [xA16] := by rw [← hw3]; exact items_one xA16 w2
  have z3 : w3.heap.size = w2.heap.size + 1 := by rw [← hw3]; simp
  have b13 := b2.trans (b3.mono b2.size)
  have q3 := q1.below b13
  have hadd := lawq_add q3 _ _ [xA16] r3 (by omega) (fun x hx => by rw [List.mem_singleton.1 hx]; exact right_A) (by show 0 + 1 ≤ _; omega)
  have K3 := Lib.hid (And.intro q3 (And.intro (i2.below b3) (And.intro (show N < w1.heap.size from l1) (And.intro (fun b hb => (l3 b hb).2) (And.intro b2.size (And.intro b3.size hb.size))))))
  obtain ⟨c0, c1, c2, c3, c4, c5, c6, _⟩ := i2.cells
  clear hmade hs hlen hb q1 l1 l2 l3 b2 i2 b3 r3 b13 q3
  go_wp2_with fail
  refine hadd.mono ?_
  rintro e w4 ⟨ao, n, cap, rfl, hn, ho, hb4⟩
  have hn2 : n = 2 := hn.trans (by unfold addS; rw [if_neg (by simp), List.length_append, puts_len]; rfl)
  subst hn2
  obtain ⟨q3, i3, lN, lD, z12, z23, _⟩ := K3.out
  have q4 := q3.below hb4
  have hsz : (printL (addS 0 [xA16])).length ≤ 100 := Nat.le_trans (add_size [xA16] 0 (by show 0 + 1 ≤ _; omega)) (by decide)
  have hput := lawq_put q4 (by omega) w3.heap.size _ (addS 0 [xA16]) ho (by omega) (fun b hb => by have := lD b hb; omega) (Nat.le_trans (add_len _ _) (by decide)) (by omega)
  rw [commit_room (add_fits (by show 0 + 1 ≤ _; omega) (fun x hx => by rw [List.mem_singleton.1 hx]; exact right_A)) (add_ne (by simp)) (by unfold secN; omega)] at hput
  have K4 := Lib.hid (And.intro ho (And.intro (i3.below hb4) hb4.size))
  clear hadd hn ho hb4 q3 i3 lN lD z12 z23 q4 hsz c0 c1 c2 c3 c4 c5 c6
  go_wp2_with fail
  refine hput.mono ?_
  rintro e w5 ⟨d5, rfl, hl5, _, ht5⟩
  have hq5 := queue_add queue_nil [xA16] (fun x hx => by rw [List.mem_singleton.1 hx]; exact right_A) (by show 0 + 1 ≤ _; omega)
  obtain ⟨_, _, lN, lD, z12, z23, _⟩ := K3.out
  obtain ⟨ho4, i4, z34⟩ := K4.out
  obtain ⟨u5, hu5⟩ : ∃ u, 1 + secN (printL (addS 0 [xA16])).length = u := ⟨_, rfl⟩
  obtain ⟨p5, hp5⟩ : ∃ u, behindP [] (addS 0 [xA16]) = u := ⟨_, rfl⟩
  have hq5' : QueueP p5 [xB16] 1 := by rw [← hp5]; exact hq5
  rw [hu5, hp5] at hl5
  have q5 : LawQ w w5 N Nd g 100 u5 1 d5 p5 [xB16] 1 := ⟨hl5, hq5', Hp.out⟩
  have i5 : ItAt w5 w1.heap.size 0 ⟨#[97]⟩ ⟨#[98]⟩ ⟨#[116]⟩ 1 0 1 := turned_cells ht5 i4 (by omega) (fun h => by have := lD _ h; omega)
  have o5 := row_keepG ho4 (show N < w3.heap.size by omega) (fun b hb => by have := lD b hb; omega) ht5
  obtain ⟨bl, rfl, _, hcm, hk0⟩ := row_first o5 (by unfold addS; rw [if_neg (by simp), List.length_append, puts_len]; decide)
  simp only [add_A, List.getElem_cons_zero] at hk0
  have hk1 : w5.cell? ⟨bl, 0, none⟩ = some (.string ⟨#[113, 47, 48, 48, 48, 48, 48, 48, 48, 49]⟩) := hk0.trans (by rw [key_fix (by omega)]; rfl)
  have hget : ∀ W, Below w5.heap.size w5 W → Calls Tryz.prog 20 #[.pointer (some ⟨N, 0, none⟩), .int .i64 1] W fun e w' => e = .returned (.tuple #[.agg #[.int .i64 1, .string ⟨#[97]⟩, .string ⟨#[98]⟩, .string ⟨#[116]⟩, .int .i64 1, .int .i64 0, .int .i64 1], .bool true]) ∧ Below W.heap.size W w' := fun W hW => lawq_get (q5.below hW) xB16 (List.mem_singleton.2 rfl) 1 rfl
  have hrd1 : ∀ W, Below w5.heap.size w5 W → Calls Tryz.prog 21 #[.pointer (some ⟨N, 0, none⟩), .int .i64 1] W fun e w' => e = .returned (.tuple #[.agg #[.int .i64 1, .string ⟨#[97]⟩, .string ⟨#[98]⟩, .string ⟨#[116]⟩, .int .i64 1, .int .i64 0, .int .i64 1], .bool true]) ∧ Below W.heap.size W w' := fun W hW => lawq_ready (q5.below hW) (by omega) (by show 1 ≤ _; omega) 1
  have hrd0 : ∀ W, Below w5.heap.size w5 W → Calls Tryz.prog 21 #[.pointer (some ⟨N, 0, none⟩), .int .i64 0] W fun e w' => e = .returned (.tuple #[.agg #[.int .i64 0, .string ⟨#[]⟩, .string ⟨#[]⟩, .string ⟨#[]⟩, .int .i64 0, .int .i64 0, .int .i64 0], .bool false]) ∧ Below W.heap.size W w' := fun W hW => lawq_ready (q5.below hW) (by omega) (by show 1 ≤ _; omega) 0
  obtain ⟨T, hT⟩ : ∃ T, textQ (textS xA16) = T := ⟨_, rfl⟩
  have hTs : T.size = 33 := by rw [← hT]; rfl
  have hpr : ∀ W, Calls Tryz.prog 25 #[.agg #[.int .i64 0, .string ⟨#[97]⟩, .string ⟨#[98]⟩, .string ⟨#[116]⟩, .int .i64 1, .int .i64 0, .int .i64 1]] W fun e w' => e = .returned (.tuple #[.string T, .int .i64 0]) ∧ Below W.heap.size W w' := fun W => by
    rw [← hT]
    exact sprint_any xA16 right_A W
  have hpa : ∀ W, Calls Tryz.prog 26 #[.int .i64 7, .string T] W fun e w' => e = .returned (.tuple #[.agg #[.int .i64 7, .string ⟨#[97]⟩, .string ⟨#[98]⟩, .string ⟨#[116]⟩, .int .i64 1, .int .i64 0, .int .i64 1], .int .i64 0]) ∧ Below W.heap.size W w' := fun W => by
    rw [← hT]
    exact sparse_any xA16 7 W right_A (by omega)
  have hfl : ∀ W, Below w5.heap.size w5 W → Calls Tryz.prog 16 #[.pointer (some ⟨N, 0, none⟩), .int .i64 2, .int .i64 1] W fun e w' => e = .returned (.tuple #[.agg #[.string ⟨#[]⟩, .string ⟨#[]⟩, .bool false], .bool false, .int .i64 4]) ∧ Below W.heap.size W w' := fun W hW => lawq_fail_none (q5.below hW) 2 (by omega) (fun x hx => by rw [List.mem_singleton.1 hx]; decide) 1
  have hdr : ∀ W, Below w.heap.size w W → Calls Tryz.prog 14 #[.int .i64 1] W fun e w' => e = .returned (.agg #[.string (textQ (keyS 1)), .string ⟨#[]⟩, .bool true]) ∧ Below W.heap.size W w' := fun W hW => sdrop_any 1 W (by omega) (pow_below Hp.out hW)
  have hcmp : ∀ W, (binOp .eql 44 (.agg #[.int .i64 1, .string ⟨#[97]⟩, .string ⟨#[98]⟩, .string ⟨#[116]⟩, .int .i64 1, .int .i64 0, .int .i64 1]) (.agg #[.int .i64 1, .string ⟨#[97]⟩, .string ⟨#[98]⟩, .string ⟨#[116]⟩, .int .i64 1, .int .i64 0, .int .i64 1])).run Tryz.prog W = .ok (.bool true) W := fun W => by
    have := run_item_eql xB16 xB16 W
    rw [decide_eq_true rfl] at this
    exact this
  have hgrd : ∀ (p q : Operand) W, (eqGuard .eql 44 p q (.agg #[.int .i64 1, .string ⟨#[97]⟩, .string ⟨#[98]⟩, .string ⟨#[116]⟩, .int .i64 1, .int .i64 0, .int .i64 1]) (.agg #[.int .i64 1, .string ⟨#[97]⟩, .string ⟨#[98]⟩, .string ⟨#[116]⟩, .int .i64 1, .int .i64 0, .int .i64 1])).run Tryz.prog W = .ok () W := fun p q W => run_item_guard .eql p q xB16 xB16 W
  have HC := Lib.hid (And.intro hget (And.intro hrd1 (And.intro hrd0 (And.intro hpr (And.intro hpa (And.intro hfl (And.intro hdr (And.intro hcmp hgrd))))))))
  have HTs := Lib.hid (And.intro hTs q5)
  have hblt : bl < w5.heap.size := World.block_lt_of_cell? w5 ⟨bl, 0, none⟩ hk1
  have K5 := Lib.hid (And.intro i5 (And.intro hk1 (And.intro hl5.lo (And.intro (show w1.heap.size < w5.heap.size from i5.lt) (And.intro (show N < w1.heap.size from lN) (And.intro (show w.heap.size ≤ w1.heap.size from K3.out.2.2.2.2.2.2) (And.intro lD (And.intro hblt (And.intro (World.ownsRow.lt o5 bl rfl).1 K3.out.2.1.lt)))))))))
  unfold maxLen at hcm
  have hg1 := hget w5 (Below.refl _ _)
  clear hput hl5 ht5 hq5 hq5' hu5 hp5 q5 i5 o5 hk0 hk1 hblt lN lD z12 z23 ho4 i4 z34 K4 hT hTs hget hrd1 hrd0 hpr hpa hfl hdr hcmp hgrd
  go_wp2_with fail
  refine hg1.mono ?_
  rintro e w6 ⟨rfl, hb6⟩
  obtain ⟨w7, hw7⟩ : ∃ V, w6.alloc (.cells #[.int .i64 1, .string ⟨#[97]⟩, .string ⟨#[98]⟩, .string ⟨#[116]⟩, .int .i64 1, .int .i64 0, .int .i64 1] 44) = V := ⟨_, rfl⟩
  have cw7 : Below w6.heap.size w6 w7 := by rw [← hw7]; exact (Below.refl _ _).alloc (Nat.le_refl _) _
  have jw7 : ItAt w7 w6.heap.size 1 ⟨#[97]⟩ ⟨#[98]⟩ ⟨#[116]⟩ 1 0 1 := by rw [← hw7]; exact it_new w6 _ _ _ _ _ _ _
  have b57 := hb6.trans (cw7.mono hb6.size)
  have hc7 := HC.out.2.1 w7 b57
  have K7 := Lib.hid (And.intro b57 jw7)
  have S7 := Lib.hid (show w5.heap.size ≤ w6.heap.size from hb6.size)
  clear hg1 hb6 cw7 jw7 b57
  go_wp2_with fail
  refine hc7.mono ?_
  rintro e w8 ⟨rfl, hb8⟩
  obtain ⟨w9, hw9⟩ : ∃ V, w8.alloc (.cells #[.int .i64 1, .string ⟨#[97]⟩, .string ⟨#[98]⟩, .string ⟨#[116]⟩, .int .i64 1, .int .i64 0, .int .i64 1] 44) = V := ⟨_, rfl⟩
  have cw9 : Below w8.heap.size w8 w9 := by rw [← hw9]; exact (Below.refl _ _).alloc (Nat.le_refl _) _
  have jw9 : ItAt w9 w8.heap.size 1 ⟨#[97]⟩ ⟨#[98]⟩ ⟨#[116]⟩ 1 0 1 := by rw [← hw9]; exact it_new w8 _ _ _ _ _ _ _
  have b79 := hb8.trans (cw9.mono hb8.size)
  have b59 := K7.out.1.trans (b79.mono K7.out.1.size)
  have hc9 := HC.out.2.2.1 w9 b59
  have S9 := Lib.hid (show w5.heap.size ≤ w8.heap.size from Nat.le_trans K7.out.1.size hb8.size)
  have K9 := Lib.hid (And.intro b59 (And.intro (K7.out.2.below b79) jw9))
  clear hc7 hb8 cw9 jw9 b79 b59 K7
  go_wp2_with fail
  refine hc9.mono ?_
  rintro e w10 ⟨rfl, hb10⟩
  have b911 : Below w9.heap.size w9 (w10.alloc (.cells #[.int .i64 0, .string ⟨#[]⟩, .string ⟨#[]⟩, .string ⟨#[]⟩, .int .i64 0, .int .i64 0, .int .i64 0] 44)) := hb10.alloc hb10.size _
  have b511 := K9.out.1.trans (b911.mono K9.out.1.size)
  have K11 := Lib.hid (And.intro b511 (And.intro (K9.out.2.1.below b911) (K9.out.2.2.below b911)))
  clear hc9 hb10 b911 b511 K9
  obtain ⟨c0, c1, c2, c3, c4, c5, c6, _⟩ := (K5.out.1.below K11.out.1).cells
  go_wp2_with fail
  refine (HC.out.2.2.2.1 _).mono ?_
  rintro e w12 ⟨rfl, hb12⟩
  have K12 := Lib.hid (And.intro (K11.out.1.trans (hb12.mono K11.out.1.size)) (And.intro (K11.out.2.1.below hb12) (K11.out.2.2.below hb12)))
  have hc12 := HC.out.2.2.2.2.1 w12
  clear hb12 K11 c0 c1 c2 c3 c4 c5 c6
  go_wp2_with fail
  refine hc12.mono ?_
  rintro e w13 ⟨rfl, hb13⟩
  obtain ⟨w14, hw14⟩ : ∃ V, w13.alloc (.cells #[.int .i64 7, .string ⟨#[97]⟩, .string ⟨#[98]⟩, .string ⟨#[116]⟩, .int .i64 1, .int .i64 0, .int .i64 1] 44) = V := ⟨_, rfl⟩
  have cw14 : Below w13.heap.size w13 w14 := by rw [← hw14]; exact (Below.refl _ _).alloc (Nat.le_refl _) _
  have jw14 : ItAt w14 w13.heap.size 7 ⟨#[97]⟩ ⟨#[98]⟩ ⟨#[116]⟩ 1 0 1 := by rw [← hw14]; exact it_new w13 _ _ _ _ _ _ _
  have b1214 := hb13.trans (cw14.mono hb13.size)
  have b514 := K12.out.1.trans (b1214.mono K12.out.1.size)
  have hc14 := HC.out.2.2.2.2.2.1 w14 b514
  have S14 := Lib.hid (show w5.heap.size ≤ w13.heap.size from Nat.le_trans K12.out.1.size hb13.size)
  have K14 := Lib.hid (And.intro b514 (And.intro (K12.out.2.1.below b1214) (And.intro (K12.out.2.2.below b1214) jw14)))
  clear hc12 hb13 cw14 jw14 b1214 b514 K12
  go_wp2_with fail
  refine hc14.mono ?_
  rintro e w15 ⟨rfl, hb15⟩
  have b1416 : Below w14.heap.size w14 (w15.alloc (.cells #[.string ⟨#[]⟩, .string ⟨#[]⟩, .bool false] 50)) := hb15.alloc hb15.size _
  have b516 := K14.out.1.trans (b1416.mono K14.out.1.size)
  have i16 := K5.out.1.below b516
  obtain ⟨w17, hw17⟩ : ∃ V, (w15.alloc (.cells #[.string ⟨#[]⟩, .string ⟨#[]⟩, .bool false] 50)).setCell ⟨w1.heap.size, 0, none⟩ (.int .i64 1) = V := ⟨_, rfl⟩
  have t17 : Turned (fun b => b = w1.heap.size) (w15.alloc (.cells #[.string ⟨#[]⟩, .string ⟨#[]⟩, .bool false] 50)) w17 := by rw [← hw17]; exact Turned.set rfl
  have i17 : ItAt w17 w1.heap.size 1 ⟨#[97]⟩ ⟨#[98]⟩ ⟨#[116]⟩ 1 0 1 := by rw [← hw17]; exact heap_setCell_same _ w1.heap.size 0 _ _ _ i16
  have z5 := K5.out.2.2.2.1
  have z67 := K14.out.2.1.lt
  have q17 : LawQ w w17 N Nd g 100 u5 1 d5 p5 [xB16] 1 := (HTs.out.2.below b516).side t17 (fun b hb => by
    subst hb
    exact ⟨K5.out.2.2.2.2.2.1, by have := K5.out.2.2.2.2.1; omega, fun hm => by have := K5.out.2.2.2.2.2.2.1 _ hm; omega, _, _, i16⟩)
  have j7 := K14.out.2.1.below b1416
  have j9 := K14.out.2.2.1.below b1416
  have j14 := K14.out.2.2.2.below b1416
  have n7 : w6.heap.size ≠ w1.heap.size := by have := S7.out; omega
  have n9 : w8.heap.size ≠ w1.heap.size := by have := S9.out; omega
  have n14 : w13.heap.size ≠ w1.heap.size := by have := S14.out; omega
  have nb : bl ≠ w1.heap.size := by
    have := K5.out.2.2.2.2.2.2.2.2.1
    have := K5.out.2.2.2.2.2.2.2.2.2
    omega
  have g7 : ItAt w17 w6.heap.size 1 ⟨#[97]⟩ ⟨#[98]⟩ ⟨#[116]⟩ 1 0 1 := t17.heap j7 n7
  have g9 : ItAt w17 w8.heap.size 1 ⟨#[97]⟩ ⟨#[98]⟩ ⟨#[116]⟩ 1 0 1 := t17.heap j9 n9
  have g14 : ItAt w17 w13.heap.size 7 ⟨#[97]⟩ ⟨#[98]⟩ ⟨#[116]⟩ 1 0 1 := t17.heap j14 n14
  have hbl := K5.out.2.2.2.2.2.2.2.1
  have gk : w17.cell? ⟨bl, 0, none⟩ = some (.string ⟨#[113, 47, 48, 48, 48, 48, 48, 48, 48, 49]⟩) := (World.cell?_of_block (t17.block bl (Nat.lt_of_lt_of_le hbl b516.size) nb)).trans ((b516.cell (p := ⟨bl, 0, none⟩) hbl).trans K5.out.2.1)
  obtain ⟨o0, _, _, _, _, _, _, f0, _⟩ := i16.cells
  obtain ⟨x0, x1, x2, x3, x4, x5, x6, _⟩ := i17.cells
  obtain ⟨y0, y1, y2, y3, y4, y5, y6, _⟩ := g7.cells
  obtain ⟨z0, z1, z2, z3, z4, z5', z6, _⟩ := g9.cells
  obtain ⟨v0, v1, v2, v3, v4, v5, v6, _⟩ := g14.cells
  have hcmp := HC.out.2.2.2.2.2.2.2.1
  have hgrd := HC.out.2.2.2.2.2.2.2.2
  have hd17 := HC.out.2.2.2.2.2.2.1 w17 q17.s.lo
  have hTs := HTs.out.1
  obtain ⟨KK, hKK⟩ : ∃ K, textQ (keyS 1) = K := ⟨_, rfl⟩
  rw [hKK] at hd17
  have Q17 := Lib.hid q17
  clear hc14 hb15 b1416 b516 i16 t17 i17 z5 z67 q17 j7 j9 j14 n7 n9 n14 nb g7 g9 g14 hbl hKK K14 S7 S9 S14 K5 HC HTs
  go_wp2_with fail
  refine hd17.mono ?_
  rintro e w18 ⟨rfl, hb18⟩
  have hfd := fieldWCh KK ⟨#[]⟩ true w18
  have q18 := Q17.out.below hb18
  have hls : Calls Tryz.prog 19 #[.pointer (some ⟨N, 0, none⟩)] w18 fun e w' => ∃ ao cap, e = .returned (.slice ao 1 cap) ∧ Below w18.heap.size w18 w' := (lawq_list q18 (by omega) (by show 1 ≤ _; omega)).mono fun e w' ⟨v, h1, h2, h3⟩ => by
    obtain ⟨ao, cap, rfl⟩ := row_slice h2
    exact ⟨ao, cap, h1, h3⟩
  have L18 := Lib.hid q18.s.lo
  clear hd17 hb18 q18 Q17
  go_wp2_with fail
  refine hls.mono ?_
  rintro e w19 ⟨ao19, cap19, rfl, hb19⟩
  have Fin := Lib.hid (L18.out.trans (hb19.mono L18.out.size))
  clear hls hb19
  go_wp2
  go_ret
  exact ⟨rfl, Fin.out⟩
end Go.Proofs.YtgpdplffljidbaaGreatDoor
