/-
  SpoolExpires returns true, for any item and any numbers: the walk.
-/
import Derived.Test.YtgpdplffljidbaaGreatDoorZ40
import Derived.Test.YtgpdplffljidbaaGreatDoorZ41
namespace Go.Proofs.YtgpdplffljidbaaGreatDoor
open Go.RowKit Go.Maps

theorem fail_time {b t d now : Int} (h : rightT b t d = true) (hn : timeT now = true) (hd : d ≤ now) : failT b t d now = ((0, 0, 0), true, 0) ∨
    (failT b t d now = ((b, t + 1, now + waitT t), false, 0) ∧ rightT b (t + 1) (now + waitT t) = true ∧ waitT t ≤ 32) := by
  obtain ⟨_, _, _, p6, p7⟩ := right_of h
  have hw := wait_few p6 p7
  rcases fail_cases b t d now with ⟨h1, _⟩ | ⟨_, h1 | h1 | ⟨h1, h2, _⟩⟩
  · unfold readyT at h1
    rw [h, decide_eq_true hd] at h1
    cases h1
  · exfalso
    unfold failT at h1
    rw [h, hn] at h1
    rw [if_neg (by simp), if_neg (by omega)] at h1
    split at h1 <;> simp at h1
  · exact .inl h1
  · exact .inr ⟨h1, h2, by omega⟩
theorem right_turn {x : ItemS} {b t d : Int} (h : rightS x = true) (ht : rightT b t d = true) : rightS { x with b := b, t := t, d := d } = true := by
  obtain ⟨h1, h2, h3, _⟩ := right_sizes h
  unfold rightS
  simp only [Bool.and_eq_true, decide_eq_true_eq]
  exact ⟨h1, h2, h3, ht⟩
structure ExpI (i : Nat) (y : ItemS) (u c : Nat) : Prop where
  id : y.id = 1
  right : rightS y = true
  tx : y.tx.length ≤ 500
  t : (i : Int) ≤ y.t
  d : y.d ≤ 549755813888 + 300 * (i : Int)
  u : u ≤ 25 + 25 * i
  c : c ≤ i + 1

set_option maxRecDepth 100000 in
set_option maxHeartbeats 8000000 in
theorem wexp_walk (x : ItemS) (A : Option Addr) (n cap : Nat) (w : World) (hp : PowIs w) (hl : Smalls8 w A n) (_hc : n ≤ cap) (_hcm : cap ≤ maxLen) :
    Calls Tryz.prog 7 #[itemV x, .slice A n cap] w fun e w' => e = .returned (.bool true) ∧ Below w.heap.size w w' := by
  have hrg := fun W => sright_any x W
  have hXs : (textQ x.tx).size = x.tx.length := rfl
  unfold itemV at hrg ⊢
  obtain ⟨F, hF⟩ : ∃ X, textQ x.fr = X := ⟨_, rfl⟩
  obtain ⟨O, hO⟩ : ∃ X, textQ x.to = X := ⟨_, rfl⟩
  obtain ⟨X, hX⟩ : ∃ X, textQ x.tx = X := ⟨_, rfl⟩
  rw [hF, hO, hX] at hrg ⊢
  rw [hX] at hXs
  obtain ⟨w1, hw1⟩ : ∃ w1, w.alloc (.cells #[.int .i64 x.id, .string F, .string O, .string X, .int .i64 x.b, .int .i64 x.t, .int .i64 x.d] 44) = w1 := ⟨_, rfl⟩
  have b1 : Below w.heap.size w w1 := by rw [← hw1]; exact (Below.refl _ _).alloc (Nat.le_refl _) _
  have i1 : ItAt w1 w.heap.size x.id F O X x.b x.t x.d := by rw [← hw1]; exact it_new w _ _ _ _ _ _ _
  have haw := awake16_any w1 (pow_below hp b1)
  have HW := Lib.hid (And.intro hF (And.intro hO (And.intro hX (And.intro hp hl))))
  have Hrg := Lib.hid hrg
  unfold maxLen at _hcm
  have K1 := Lib.hid (And.intro b1 i1)
  clear hrg hF hO hX hp hl b1 i1
  go_enter Tryz.func7, Tryz.ntmps7
  go_wp2_with fail
  refine haw.mono ?_
  rintro e w2 ⟨rfl, hb2⟩
  have K2 := Lib.hid (And.intro (K1.out.1.trans (hb2.mono K1.out.1.size)) (K1.out.2.below hb2))
  clear haw hb2 K1
  obtain ⟨c0, c1, c2, c3, c4, c5, c6, _⟩ := K2.out.2.cells
  have hXn : X.size ≤ 1000000000000000000000 ∨ True := .inr trivial
  clear hXn
  by_cases hbig : 500 < x.tx.length
  · have Fin := Lib.hid K2.out.1
    go_wp2
    go_ret
    exact ⟨rfl, Fin.out⟩
  · by_cases hdue : 549755813888 < x.d
    · have Fin := Lib.hid K2.out.1
      go_wp2
      go_ret
      exact ⟨rfl, Fin.out⟩
    · have hmade := made_any 2000 (by omega) (by omega) (by omega) w2
      go_wp2_with fail
      refine hmade.mono ?_
      rintro e w3 ⟨N, Nd, g, d, rfl, hs, _, hb3⟩
      have hs : StoreG w3 w2.heap.size N Nd g 0 1000 1 0 d [] := hs
      have q3 : LawQ w2 w3 N Nd g 1000 1 0 d [] [] 0 := lawq_new hs hb3 (pow_below HW.out.2.2.2.1 K2.out.1)
      have hlt := hs.ltN
      have i3 := K2.out.2.below hb3
      have hN : Hid (w.heap.size < w2.heap.size ∧ w2.heap.size ≤ N ∧ N < w3.heap.size ∧ (∀ b, mineD Nd g b → w2.heap.size ≤ b ∧ b < w3.heap.size) ∧ w2.heap.size ≤ w3.heap.size) := Lib.hid ⟨K2.out.2.lt, hlt.2.1, hlt.1, hlt.2.2, hb3.size⟩
      clear hmade hs hlt c0 c1 c2 c3 c4 c5 c6
      obtain ⟨c0, c1, c2, c3, c4, c5, c6, _⟩ := i3.cells
      obtain ⟨w4, hw4⟩ : ∃ w4, w3.alloc (.cells #[.int .i64 x.id, .string F, .string O, .string X, .int .i64 x.b, .int .i64 x.t, .int .i64 x.d] 44) = w4 := ⟨_, rfl⟩
      have b4 : Below w3.heap.size w3 w4 := by rw [← hw4]; exact (Below.refl _ _).alloc (Nat.le_refl _) _
      have r4 : ItemsAt w4 (w3.heap.size + 1) (.slice (some ⟨w3.heap.size, 0, none⟩) 1 1) [x] := by
        obtain ⟨hF, hO, hX, _⟩ := HW.out
        rw [← hw4, ← hF, ← hO, ← hX]
        exact items_one x w3
      have z4 : w4.heap.size = w3.heap.size + 1 := by rw [← hw4]; simp
      have q4 := q3.below b4
      have K4 := Lib.hid (And.intro q4 (i3.below b4))
      by_cases hr : rightS x = true
      case neg =>
        rw [Bool.not_eq_true] at hr
        have hadd := sadd_bad w4 (.pointer (some ⟨N, 0, none⟩)) _ _ [x] r4 (by omega) ⟨x, List.mem_singleton.2 rfl, hr⟩
        have Hr := Lib.hid hr
        clear q3 hb3 i3 b4 r4 q4 hr
        go_wp2_with fail
        refine hadd.mono ?_
        rintro e w5 ⟨rfl, hb5⟩
        have i5 := K4.out.2.below hb5
        have hb5' := K2.out.1.trans ((K4.out.1.below hb5).s.lo.mono K2.out.1.size)
        have h5 := Hrg.out w5
        rw [Hr.out] at h5
        have K5 := Lib.hid hb5'
        clear hadd hb5 hb5' c0 c1 c2 c3 c4 c5 c6
        obtain ⟨c0, c1, c2, c3, c4, c5, c6, _⟩ := i5.cells
        clear i5
        go_wp2_with fail
        refine h5.mono ?_
        rintro e w6 ⟨rfl, hb6⟩
        have Fin := Lib.hid (K5.out.trans (hb6.mono K5.out.size))
        clear h5 hb6
        go_wp2
        go_ret
        exact ⟨rfl, Fin.out⟩
      case pos =>
        have hadd := lawq_add q4 _ _ [x] r4 (by omega) (fun y hy => by rw [List.mem_singleton.1 hy]; exact hr) (by show 0 + 1 ≤ _; omega)
        have hsz : (printL (addS 0 [x])).length ≤ 1100 := by
          have h1 := add_size [x] 0 (by show 0 + 1 ≤ _; omega)
          obtain ⟨r1, r2, r3, _⟩ := right_sizes hr
          have h2 : bytesS [x] = x.fr.length + x.to.length + x.tx.length := by simp [bytesS]
          have h3 : [x].length = 1 := rfl
          omega
        have hx0 : (0 : Int) ≤ x.t := (right_of (right_sizes hr).2.2.2).2.2.2.1
        have Hr := Lib.hid (And.intro hr (And.intro hsz (And.intro hx0 (show x.tx.length ≤ 500 by omega))))
        have Z4 := Lib.hid z4
        clear q3 hb3 i3 b4 r4 q4 hr hsz hx0 z4
        go_wp2_with fail
        refine hadd.mono ?_
        rintro e w5 ⟨ao, n5, cap5, rfl, hn5, ho, hb5⟩
        have q5 := K4.out.1.below hb5
        have hput := lawq_put q5 (by omega) w4.heap.size _ (addS 0 [x]) ho (by have := hN.out.2.2.1; have := Z4.out; omega) (fun b hb => by have := (hN.out.2.2.2.1 b hb).2; have := Z4.out; omega) (Nat.le_trans (add_len _ _) (by show 2 ≤ _; omega)) (by have := Hr.out.2.1; omega)
        rw [commit_room (add_fits (by show 0 + 1 ≤ _; omega) (fun y hy => by rw [List.mem_singleton.1 hy]; exact Hr.out.1)) (add_ne (by simp)) (by have := Hr.out.2.1; unfold secN; omega)] at hput
        have hq6 := queue_add queue_nil [x] (fun y hy => by rw [List.mem_singleton.1 hy]; exact Hr.out.1) (by show 0 + 1 ≤ _; omega)
        obtain ⟨u6, hu6⟩ : ∃ u, 1 + secN (printL (addS 0 [x])).length = u := ⟨_, rfl⟩
        obtain ⟨p6, hp6⟩ : ∃ u, behindP [] (addS 0 [x]) = u := ⟨_, rfl⟩
        rw [hu6, hp6] at hput
        rw [hp6] at hq6
        have hu25 : u6 ≤ 25 := by have := Hr.out.2.1; rw [← hu6]; unfold secN; omega
        have HQ6 : Hid (QueueP p6 [{ x with id := 1 }] 1 ∧ ExpI 0 { x with id := 1 } u6 1) := Lib.hid ⟨hq6, ⟨rfl, Hr.out.1, Hr.out.2.2.2, Hr.out.2.2.1, by show x.d ≤ _; omega, by omega, by omega⟩⟩
        clear hadd hn5 ho hb5 q5 hq6 hu6 hp6 hu25
        go_wp2_with fail
        refine hput.mono ?_
        rintro e w6 ⟨d6, rfl, hl6, _, ht6⟩
        have q6 : LawQ w2 w6 N Nd g 1000 u6 1 d6 p6 [{ x with id := 1 }] 1 := ⟨hl6, HQ6.out.1, K4.out.1.pw⟩
        have L6 := Lib.hid (And.intro q6 HQ6.out.2)
        have KW := Lib.hid K2.out.1
        clear hput hl6 ht6 q6 c0 c1 c2 c3 c4 c5 c6 K2 K4
        go_wp2
        go_loopw [9] (fun iv wr => ∃ (i : Nat) (y : ItemS) (u c : Nat) (d : Dk) (ps : List PairP), i ≤ 5 ∧ iv = .int .i64 i ∧ Hid (LawQ w2 wr N Nd g 1000 u c d ps [y] 1 ∧ ExpI i y u c)) (fun iv _ => 5 - (intOf iv).toNat)
        case atStart => exact ⟨0, _, _, _, _, _, by omega, rfl, L6⟩
        case round =>
          clear L6
          obtain ⟨i, y, u, c, d, ps, hi, rfl, hk⟩ := hrel
          by_cases hlt : i < 5
          · have hget := lawq_get hk.out.1 y (List.mem_singleton.2 rfl) 1 hk.out.2.id
            unfold itemV at hget
            rw [hk.out.2.id] at hget
            obtain ⟨F1, hF1⟩ : ∃ X, textQ y.fr = X := ⟨_, rfl⟩
            obtain ⟨O1, hO1⟩ : ∃ X, textQ y.to = X := ⟨_, rfl⟩
            obtain ⟨X1, hX1⟩ : ∃ X, textQ y.tx = X := ⟨_, rfl⟩
            rw [hF1, hO1, hX1] at hget
            clear hF1 hO1 hX1
            go_wp2_with fail
            refine hget.mono ?_
            rintro e V1 ⟨rfl, hb1⟩
            obtain ⟨V2, hV2⟩ : ∃ V, V1.alloc (.cells #[.int .i64 1, .string F1, .string O1, .string X1, .int .i64 y.b, .int .i64 y.t, .int .i64 y.d] 44) = V := ⟨_, rfl⟩
            have b2 : Below V1.heap.size V1 V2 := by rw [← hV2]; exact (Below.refl _ _).alloc (Nat.le_refl _) _
            have i2 : ItAt V2 V1.heap.size 1 F1 O1 X1 y.b y.t y.d := by rw [← hV2]; exact it_new V1 _ _ _ _ _ _ _
            have q2 := hk.out.1.below (hb1.trans (b2.mono hb1.size))
            have K2 := Lib.hid (And.intro q2 KW.out)
            obtain ⟨c0, c1, c2, c3, c4, c5, c6, _⟩ := i2.cells
            have hyd0 := hk.out.2.d
            have hyr := right_of (right_sizes hk.out.2.right).2.2.2
            have hyd1 : 0 ≤ y.d := hyr.2.1.1
            have hyd2 : y.d ≤ 1099511627776 := hyr.2.1.2
            have BW : Hid (Below w.heap.size w V2) := Lib.hid (KW.out.trans (q2.s.lo.mono KW.out.size))
            clear hget hb1 b2 i2 q2 hyr hyd0
            by_cases hn : i < n
            · obtain ⟨bl, off, kb, rfl, hk256, hcell⟩ := HW.out.2.2.2.2.at hn
              have e1 := hcell V2 BW.out
              clear hcell
              obtain ⟨AT, hAT⟩ : ∃ AT : Int, y.d + (kb : Int) = AT := ⟨_, rfl⟩
              have hA1 : y.d ≤ AT := by omega
              have hA2 : AT ≤ y.d + 255 := by omega
              have hrt0 := (right_sizes hk.out.2.right).2.2.2
              have hyd := hk.out.2.d
              have hyb := right_of hrt0
              have htm : timeT AT = true := by
                unfold timeT
                simp only [Bool.and_eq_true, decide_eq_true_eq]
                omega
              rcases fail_time hrt0 htm hA1 with ho | ⟨ha, hrt, hw32⟩
              · have hfl := lawq_fail_over K2.out.1 y (List.mem_singleton.2 rfl) 1 hk.out.2.id AT _ ho
                unfold chV at hfl
                rw [show textQ [] = (⟨#[]⟩ : ByteArray) from rfl] at hfl
                obtain ⟨KT, hKT⟩ : ∃ K, textQ (keyS 1) = K := ⟨_, rfl⟩
                rw [hKT] at hfl
                have HKT := Lib.hid hKT
                have HT := Lib.hid (And.intro hA1 hA2)
                clear hrt0 hyd hyb htm ho hKT hA1 hA2
                go_wp2_with fail
                refine hfl.mono ?_
                rintro e V3 ⟨rfl, hb3⟩
                obtain ⟨V4, hV4⟩ : ∃ V, V3.alloc (.cells #[.string KT, .string ⟨#[]⟩, .bool true] 50) = V := ⟨_, rfl⟩
                have b4 : Below V3.heap.size V3 V4 := by rw [← hV4]; exact (Below.refl _ _).alloc (Nat.le_refl _) _
                have c4 : ChAt V4 V3.heap.size KT ⟨#[]⟩ true := by rw [← hV4]; exact heap_alloc_new V3 _
                have q4 := K2.out.1.below (hb3.trans (b4.mono hb3.size))
                have hcm := lawq_one q4 (by have := hk.out.2.c; omega) (keyS 1) [] true ⟨by rw [key_len (by omega)]; omega, by simp⟩
                have hfd := queue_drop q4.q (n := 1) (by omega) []
                rw [show (([y] : List ItemS).filter fun z => !(z.id == ((1 : Nat) : Int))) = [] by rw [List.filter_cons, if_neg (by rw [hk.out.2.id]; decide)]; rfl] at hfd
                rw [commit_room (fun c hc => by
                  rw [List.mem_singleton.1 hc]
                  exact ⟨by show (keyS 1).length ≤ _; rw [key_len (by omega)]; omega, by simp⟩) (by simp) (by
                  have h1 : (printL [⟨keyS 1, [], true⟩]).length ≤ 20 := by
                    rw [print_cons]
                    have h2 : (⟨keyS 1, [], true⟩ : Ch).key.length = 10 := key_len (by omega)
                    have h3 := says_le ⟨keyS 1, [], true⟩
                    have h4 : (⟨keyS 1, [], true⟩ : Ch).val.length = 0 := rfl
                    have h5 : (printL []).length = 0 := rfl
                    omega
                  have := hk.out.2.u
                  unfold secN
                  omega)] at hcm
                rw [HKT.out, show textQ [] = (⟨#[]⟩ : ByteArray) from rfl] at hcm
                obtain ⟨k0, k1, k2, _⟩ := c4.cells
                have HQ := Lib.hid hfd
                have HC := Lib.hid (show c ≤ 300 by have := hk.out.2.c; omega)
                clear hfl hb3 b4 c4 q4 hfd
                go_wp2_with fail
                refine hcm.mono ?_
                rintro e V5 ⟨d5, rfl, hl5, _, ht5⟩
                have q5 : LawQ w2 V5 N Nd g 1000 _ (c + 1) d5 _ [] 1 := ⟨hl5, HQ.out, K2.out.1.pw⟩
                have hgn := lawq_gone q5 1 (by omega) (fun x hx => by cases hx)
                have K5 := Lib.hid q5
                clear hcm hl5 ht5 q5 k0 k1 k2
                go_wp2_with fail
                refine hgn.mono ?_
                rintro e V6 ⟨rfl, hb6⟩
                have q7 := K5.out.below (W' := V6.alloc (.cells #[.int .i64 0, .string ⟨#[]⟩, .string ⟨#[]⟩, .string ⟨#[]⟩, .int .i64 0, .int .i64 0, .int .i64 0] 44)) (hb6.alloc hb6.size _)
                have hls : Calls Tryz.prog 19 #[.pointer (some ⟨N, 0, none⟩)] (V6.alloc (.cells #[.int .i64 0, .string ⟨#[]⟩, .string ⟨#[]⟩, .string ⟨#[]⟩, .int .i64 0, .int .i64 0, .int .i64 0] 44)) fun e w' => ∃ ao cap, e = .returned (.slice ao 0 cap) ∧ Below (V6.alloc (.cells #[.int .i64 0, .string ⟨#[]⟩, .string ⟨#[]⟩, .string ⟨#[]⟩, .int .i64 0, .int .i64 0, .int .i64 0] 44)).heap.size (V6.alloc (.cells #[.int .i64 0, .string ⟨#[]⟩, .string ⟨#[]⟩, .string ⟨#[]⟩, .int .i64 0, .int .i64 0, .int .i64 0] 44)) w' := (lawq_list q7 (by have := HC.out; omega) (Nat.zero_le _)).mono fun e w' ⟨v, h1, h2, h3⟩ => by
                  obtain ⟨ao, cap, rfl⟩ := row_slice h2
                  exact ⟨ao, cap, h1, h3⟩
                have K7 := Lib.hid (K2.out.2.trans (q7.s.lo.mono K2.out.2.size))
                clear hgn hb6 q7 K5
                go_wp2_with fail
                refine hls.mono ?_
                rintro e V8 ⟨ao, cap8, rfl, hb8⟩
                have Fin := Lib.hid (K7.out.trans (hb8.mono K7.out.size))
                clear hls hb8
                go_wp2
                go_ret
                exact ⟨rfl, Fin.out⟩
              · have hr2 := right_turn hk.out.2.right hrt
                obtain ⟨y2, hy2⟩ : ∃ y2 : ItemS, { y with b := y.b, t := y.t + 1, d := AT + waitT y.t } = y2 := ⟨_, rfl⟩
                have hfl := lawq_fail_again K2.out.1 y (List.mem_singleton.2 rfl) 1 hk.out.2.id AT y.b (y.t + 1) (AT + waitT y.t) ha hr2
                rw [hy2] at hfl hr2
                unfold chV at hfl
                obtain ⟨KT, hKT⟩ : ∃ K, textQ (keyS 1) = K := ⟨_, rfl⟩
                obtain ⟨VT, hVT⟩ : ∃ K, textQ (textS y2) = K := ⟨_, rfl⟩
                rw [hKT, hVT] at hfl
                have HKT := Lib.hid (And.intro hKT hVT)
                have hid2 : y2.id = 1 := by rw [← hy2]; exact hk.out.2.id
                have htx2 : y2.tx.length ≤ 500 := by rw [← hy2]; exact hk.out.2.tx
                have ht2 : ((i + 1 : Nat) : Int) ≤ y2.t := by
                  have := hk.out.2.t
                  rw [← hy2]
                  show ((i + 1 : Nat) : Int) ≤ y.t + 1
                  omega
                have hd2 : y2.d ≤ 549755813888 + 300 * ((i + 1 : Nat) : Int) := by
                  rw [← hy2]
                  show AT + waitT y.t ≤ _
                  omega
                have HY := Lib.hid (And.intro hid2 (And.intro hr2 (And.intro htx2 (And.intro ht2 hd2))))
                have HT := Lib.hid (And.intro hA1 hA2)
                clear hrt0 hyd hyb htm ha hrt hw32 hKT hVT hr2 hy2 hid2 htx2 ht2 hd2 hA1 hA2
                go_wp2_with fail
                refine hfl.mono ?_
                rintro e V3 ⟨rfl, hb3⟩
                have c4 : ChAt (V3.alloc (.cells #[.string KT, .string VT, .bool false] 50)) V3.heap.size KT VT false := heap_alloc_new V3 _
                have q4 := K2.out.1.below (W' := (V3.alloc (.cells #[.string KT, .string VT, .bool false] 50))) (hb3.alloc hb3.size _)
                have hft := put_fits (n := 1) HY.out.2.1 (by omega)
                have hcm := lawq_one q4 (by have := hk.out.2.c; omega) (keyS 1) (textS y2) false hft
                have hfd := queue_again q4.q (n := 1) (List.mem_singleton.2 rfl) hk.out.2.id HY.out.2.1 HY.out.1
                rw [show (([y] : List ItemS).map fun z => if z.id = ((1 : Nat) : Int) then y2 else z) = [y2] by rw [List.map_cons, if_pos (show y.id = ((1 : Nat) : Int) from hk.out.2.id)]; rfl] at hfd
                have hlen : 1 ≤ secN (printL [⟨keyS 1, textS y2, false⟩]).length ∧ secN (printL [⟨keyS 1, textS y2, false⟩]).length ≤ 25 := by
                  obtain ⟨r1, r2, _, _⟩ := right_sizes HY.out.2.1
                  have r3 := HY.out.2.2.1
                  have h1 : (printL [⟨keyS 1, textS y2, false⟩]).length ≤ 1100 := by
                    rw [print_cons]
                    have h2 : (⟨keyS 1, textS y2, false⟩ : Ch).key.length = 10 := key_len (by omega)
                    have h3 := says_le ⟨keyS 1, textS y2, false⟩
                    have h4 : (⟨keyS 1, textS y2, false⟩ : Ch).val.length = 30 + y2.fr.length + y2.to.length + y2.tx.length := text_lenS y2
                    have h5 : (printL []).length = 0 := rfl
                    omega
                  unfold secN
                  omega
                have hu := hk.out.2.u
                rw [commit_room (fun c hc => by
                  rw [List.mem_singleton.1 hc]
                  exact hft) (by simp) (by omega)] at hcm
                rw [HKT.out.1, HKT.out.2, World.size_alloc] at hcm
                obtain ⟨u2, hu2⟩ : ∃ u2, u + secN (printL [⟨keyS 1, textS y2, false⟩]).length = u2 := ⟨_, rfl⟩
                rw [hu2] at hcm
                have hE : ExpI (i + 1) y2 u2 (c + 1) := ⟨HY.out.1, HY.out.2.1, HY.out.2.2.1, HY.out.2.2.2.1, HY.out.2.2.2.2, by omega, by have := hk.out.2.c; omega⟩
                obtain ⟨k0, k1, k2, _⟩ := c4.cells
                have HQ := Lib.hid (And.intro hfd hE)
                clear hfl hb3 c4 q4 hfd hft hlen hu hu2 hE
                go_wp2_with fail
                refine hcm.mono ?_
                rintro e V5 ⟨d5, rfl, hl5, _, ht5⟩
                have q5 : LawQ w2 V5 N Nd g 1000 u2 (c + 1) d5 _ [y2] 1 := ⟨hl5, HQ.out.1, K2.out.1.pw⟩
                have K5 := Lib.hid (And.intro q5 HQ.out.2)
                clear hcm hl5 ht5 q5 k0 k1 k2
                go_wp2
                go_roundw
                case rel => exact ⟨i + 1, y2, u2, c + 1, d5, _, by omega, by go_num, K5⟩
                case measure => simp [intOf]; omega
            · have hA1 : y.d ≤ y.d := by omega
              have hA2 : y.d ≤ y.d + 255 := by omega
              have hrt0 := (right_sizes hk.out.2.right).2.2.2
              have hyd := hk.out.2.d
              have hyb := right_of hrt0
              have htm : timeT y.d = true := by
                unfold timeT
                simp only [Bool.and_eq_true, decide_eq_true_eq]
                omega
              rcases fail_time hrt0 htm hA1 with ho | ⟨ha, hrt, hw32⟩
              · have hfl := lawq_fail_over K2.out.1 y (List.mem_singleton.2 rfl) 1 hk.out.2.id y.d _ ho
                unfold chV at hfl
                rw [show textQ [] = (⟨#[]⟩ : ByteArray) from rfl] at hfl
                obtain ⟨KT, hKT⟩ : ∃ K, textQ (keyS 1) = K := ⟨_, rfl⟩
                rw [hKT] at hfl
                have HKT := Lib.hid hKT
                have HT := Lib.hid (And.intro hA1 hA2)
                clear hrt0 hyd hyb htm ho hKT hA1 hA2
                go_wp2_with fail
                refine hfl.mono ?_
                rintro e V3 ⟨rfl, hb3⟩
                obtain ⟨V4, hV4⟩ : ∃ V, V3.alloc (.cells #[.string KT, .string ⟨#[]⟩, .bool true] 50) = V := ⟨_, rfl⟩
                have b4 : Below V3.heap.size V3 V4 := by rw [← hV4]; exact (Below.refl _ _).alloc (Nat.le_refl _) _
                have c4 : ChAt V4 V3.heap.size KT ⟨#[]⟩ true := by rw [← hV4]; exact heap_alloc_new V3 _
                have q4 := K2.out.1.below (hb3.trans (b4.mono hb3.size))
                have hcm := lawq_one q4 (by have := hk.out.2.c; omega) (keyS 1) [] true ⟨by rw [key_len (by omega)]; omega, by simp⟩
                have hfd := queue_drop q4.q (n := 1) (by omega) []
                rw [show (([y] : List ItemS).filter fun z => !(z.id == ((1 : Nat) : Int))) = [] by rw [List.filter_cons, if_neg (by rw [hk.out.2.id]; decide)]; rfl] at hfd
                rw [commit_room (fun c hc => by
                  rw [List.mem_singleton.1 hc]
                  exact ⟨by show (keyS 1).length ≤ _; rw [key_len (by omega)]; omega, by simp⟩) (by simp) (by
                  have h1 : (printL [⟨keyS 1, [], true⟩]).length ≤ 20 := by
                    rw [print_cons]
                    have h2 : (⟨keyS 1, [], true⟩ : Ch).key.length = 10 := key_len (by omega)
                    have h3 := says_le ⟨keyS 1, [], true⟩
                    have h4 : (⟨keyS 1, [], true⟩ : Ch).val.length = 0 := rfl
                    have h5 : (printL []).length = 0 := rfl
                    omega
                  have := hk.out.2.u
                  unfold secN
                  omega)] at hcm
                rw [HKT.out, show textQ [] = (⟨#[]⟩ : ByteArray) from rfl] at hcm
                obtain ⟨k0, k1, k2, _⟩ := c4.cells
                have HQ := Lib.hid hfd
                have HC := Lib.hid (show c ≤ 300 by have := hk.out.2.c; omega)
                clear hfl hb3 b4 c4 q4 hfd
                go_wp2_with fail
                refine hcm.mono ?_
                rintro e V5 ⟨d5, rfl, hl5, _, ht5⟩
                have q5 : LawQ w2 V5 N Nd g 1000 _ (c + 1) d5 _ [] 1 := ⟨hl5, HQ.out, K2.out.1.pw⟩
                have hgn := lawq_gone q5 1 (by omega) (fun x hx => by cases hx)
                have K5 := Lib.hid q5
                clear hcm hl5 ht5 q5 k0 k1 k2
                go_wp2_with fail
                refine hgn.mono ?_
                rintro e V6 ⟨rfl, hb6⟩
                have q7 := K5.out.below (W' := V6.alloc (.cells #[.int .i64 0, .string ⟨#[]⟩, .string ⟨#[]⟩, .string ⟨#[]⟩, .int .i64 0, .int .i64 0, .int .i64 0] 44)) (hb6.alloc hb6.size _)
                have hls : Calls Tryz.prog 19 #[.pointer (some ⟨N, 0, none⟩)] (V6.alloc (.cells #[.int .i64 0, .string ⟨#[]⟩, .string ⟨#[]⟩, .string ⟨#[]⟩, .int .i64 0, .int .i64 0, .int .i64 0] 44)) fun e w' => ∃ ao cap, e = .returned (.slice ao 0 cap) ∧ Below (V6.alloc (.cells #[.int .i64 0, .string ⟨#[]⟩, .string ⟨#[]⟩, .string ⟨#[]⟩, .int .i64 0, .int .i64 0, .int .i64 0] 44)).heap.size (V6.alloc (.cells #[.int .i64 0, .string ⟨#[]⟩, .string ⟨#[]⟩, .string ⟨#[]⟩, .int .i64 0, .int .i64 0, .int .i64 0] 44)) w' := (lawq_list q7 (by have := HC.out; omega) (Nat.zero_le _)).mono fun e w' ⟨v, h1, h2, h3⟩ => by
                  obtain ⟨ao, cap, rfl⟩ := row_slice h2
                  exact ⟨ao, cap, h1, h3⟩
                have K7 := Lib.hid (K2.out.2.trans (q7.s.lo.mono K2.out.2.size))
                clear hgn hb6 q7 K5
                go_wp2_with fail
                refine hls.mono ?_
                rintro e V8 ⟨ao, cap8, rfl, hb8⟩
                have Fin := Lib.hid (K7.out.trans (hb8.mono K7.out.size))
                clear hls hb8
                go_wp2
                go_ret
                exact ⟨rfl, Fin.out⟩
              · have hr2 := right_turn hk.out.2.right hrt
                obtain ⟨y2, hy2⟩ : ∃ y2 : ItemS, { y with b := y.b, t := y.t + 1, d := y.d + waitT y.t } = y2 := ⟨_, rfl⟩
                have hfl := lawq_fail_again K2.out.1 y (List.mem_singleton.2 rfl) 1 hk.out.2.id y.d y.b (y.t + 1) (y.d + waitT y.t) ha hr2
                rw [hy2] at hfl hr2
                unfold chV at hfl
                obtain ⟨KT, hKT⟩ : ∃ K, textQ (keyS 1) = K := ⟨_, rfl⟩
                obtain ⟨VT, hVT⟩ : ∃ K, textQ (textS y2) = K := ⟨_, rfl⟩
                rw [hKT, hVT] at hfl
                have HKT := Lib.hid (And.intro hKT hVT)
                have hid2 : y2.id = 1 := by rw [← hy2]; exact hk.out.2.id
                have htx2 : y2.tx.length ≤ 500 := by rw [← hy2]; exact hk.out.2.tx
                have ht2 : ((i + 1 : Nat) : Int) ≤ y2.t := by
                  have := hk.out.2.t
                  rw [← hy2]
                  show ((i + 1 : Nat) : Int) ≤ y.t + 1
                  omega
                have hd2 : y2.d ≤ 549755813888 + 300 * ((i + 1 : Nat) : Int) := by
                  rw [← hy2]
                  show y.d + waitT y.t ≤ _
                  omega
                have HY := Lib.hid (And.intro hid2 (And.intro hr2 (And.intro htx2 (And.intro ht2 hd2))))
                have HT := Lib.hid (And.intro hA1 hA2)
                clear hrt0 hyd hyb htm ha hrt hw32 hKT hVT hr2 hy2 hid2 htx2 ht2 hd2 hA1 hA2
                go_wp2_with fail
                refine hfl.mono ?_
                rintro e V3 ⟨rfl, hb3⟩
                have c4 : ChAt (V3.alloc (.cells #[.string KT, .string VT, .bool false] 50)) V3.heap.size KT VT false := heap_alloc_new V3 _
                have q4 := K2.out.1.below (W' := (V3.alloc (.cells #[.string KT, .string VT, .bool false] 50))) (hb3.alloc hb3.size _)
                have hft := put_fits (n := 1) HY.out.2.1 (by omega)
                have hcm := lawq_one q4 (by have := hk.out.2.c; omega) (keyS 1) (textS y2) false hft
                have hfd := queue_again q4.q (n := 1) (List.mem_singleton.2 rfl) hk.out.2.id HY.out.2.1 HY.out.1
                rw [show (([y] : List ItemS).map fun z => if z.id = ((1 : Nat) : Int) then y2 else z) = [y2] by rw [List.map_cons, if_pos (show y.id = ((1 : Nat) : Int) from hk.out.2.id)]; rfl] at hfd
                have hlen : 1 ≤ secN (printL [⟨keyS 1, textS y2, false⟩]).length ∧ secN (printL [⟨keyS 1, textS y2, false⟩]).length ≤ 25 := by
                  obtain ⟨r1, r2, _, _⟩ := right_sizes HY.out.2.1
                  have r3 := HY.out.2.2.1
                  have h1 : (printL [⟨keyS 1, textS y2, false⟩]).length ≤ 1100 := by
                    rw [print_cons]
                    have h2 : (⟨keyS 1, textS y2, false⟩ : Ch).key.length = 10 := key_len (by omega)
                    have h3 := says_le ⟨keyS 1, textS y2, false⟩
                    have h4 : (⟨keyS 1, textS y2, false⟩ : Ch).val.length = 30 + y2.fr.length + y2.to.length + y2.tx.length := text_lenS y2
                    have h5 : (printL []).length = 0 := rfl
                    omega
                  unfold secN
                  omega
                have hu := hk.out.2.u
                rw [commit_room (fun c hc => by
                  rw [List.mem_singleton.1 hc]
                  exact hft) (by simp) (by omega)] at hcm
                rw [HKT.out.1, HKT.out.2, World.size_alloc] at hcm
                obtain ⟨u2, hu2⟩ : ∃ u2, u + secN (printL [⟨keyS 1, textS y2, false⟩]).length = u2 := ⟨_, rfl⟩
                rw [hu2] at hcm
                have hE : ExpI (i + 1) y2 u2 (c + 1) := ⟨HY.out.1, HY.out.2.1, HY.out.2.2.1, HY.out.2.2.2.1, HY.out.2.2.2.2, by omega, by have := hk.out.2.c; omega⟩
                obtain ⟨k0, k1, k2, _⟩ := c4.cells
                have HQ := Lib.hid (And.intro hfd hE)
                clear hfl hb3 c4 q4 hfd hft hlen hu hu2 hE
                go_wp2_with fail
                refine hcm.mono ?_
                rintro e V5 ⟨d5, rfl, hl5, _, ht5⟩
                have q5 : LawQ w2 V5 N Nd g 1000 u2 (c + 1) d5 _ [y2] 1 := ⟨hl5, HQ.out.1, K2.out.1.pw⟩
                have K5 := Lib.hid (And.intro q5 HQ.out.2)
                clear hcm hl5 ht5 q5 k0 k1 k2
                go_wp2
                go_roundw
                case rel => exact ⟨i + 1, y2, u2, c + 1, d5, _, by omega, by go_num, K5⟩
                case measure => simp [intOf]; omega
          · exfalso
            have h1 := hk.out.2.t
            have h2 := right_of (right_sizes hk.out.2.right).2.2.2
            omega
end Go.Proofs.YtgpdplffljidbaaGreatDoor
