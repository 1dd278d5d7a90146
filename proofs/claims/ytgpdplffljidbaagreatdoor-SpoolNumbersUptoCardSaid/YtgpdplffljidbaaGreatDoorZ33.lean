/-
  Texts of this proof, put together: SpI.
-/
import Derived.Test.YtgpdplffljidbaaGreatDoorZ32
namespace Go.Proofs.YtgpdplffljidbaaGreatDoor
open Go.RowKit

theorem store_fnS {P : Program} {w : World} {a : Addr} {m : Mode} (fn : Fn) (first captured : Array Value) : (store a (.func fn first captured) m).run P w = stored P w a (.func fn first captured) m := run_store P w a _ m rfl
attribute [local go_sem] store_fnS
def putI (w : World) (B : Nat) (i : Int) (f o x : ByteArray) (b t d : Int) : World := ((((((w.setCell ⟨B, 0, none⟩ (.int .i64 i)).setCell ⟨B, 1, none⟩ (.string f)).setCell ⟨B, 2, none⟩ (.string o)).setCell ⟨B, 3, none⟩ (.string x)).setCell ⟨B, 4, none⟩ (.int .i64 b)).setCell ⟨B, 5, none⟩ (.int .i64 t)).setCell ⟨B, 6, none⟩ (.int .i64 d)
theorem ItAt.put {w : World} {B : Nat} {i : Int} {f o x : ByteArray} {b t d : Int} (h : ItAt w B i f o x b t d) (i' : Int) (f' o' x' : ByteArray) (b' t' d' : Int) : ItAt (putI w B i' f' o' x' b' t' d') B i' f' o' x' b' t' d' := by
  unfold ItAt at h ⊢
  unfold putI
  have h1 := heap_setCell_same w B 0 _ _ (.int .i64 i') h
  have h2 := heap_setCell_same _ B 1 _ _ (.string f') h1
  have h3 := heap_setCell_same _ B 2 _ _ (.string o') h2
  have h4 := heap_setCell_same _ B 3 _ _ (.string x') h3
  have h5 := heap_setCell_same _ B 4 _ _ (.int .i64 b') h4
  have h6 := heap_setCell_same _ B 5 _ _ (.int .i64 t') h5
  have h7 := heap_setCell_same _ B 6 _ _ (.int .i64 d') h6
  rw [h7]
  rfl
theorem below_putI {M : Nat} {v w : World} {B : Nat} (h : Below M v w) (hB : M ≤ B) (i : Int) (f o x : ByteArray) (b t d : Int) : Below M v (putI w B i f o x b t d) := by
  unfold putI
  exact ((((((h.setCell (p := ⟨B, 0, none⟩) hB _).setCell (p := ⟨B, 1, none⟩) hB _).setCell (p := ⟨B, 2, none⟩) hB _).setCell (p := ⟨B, 3, none⟩) hB _).setCell (p := ⟨B, 4, none⟩) hB _).setCell (p := ⟨B, 5, none⟩) hB _).setCell (p := ⟨B, 6, none⟩) hB _

set_option maxRecDepth 100000 in
set_option maxHeartbeats 4000000 in
theorem sparse_any (x : ItemS) (n : Nat) (w : World) (hr : rightS x = true) (hn : 1 ≤ n) : Calls Tryz.prog 26 #[.int .i64 (n : Int), .string (textQ (textS x))] w fun e w' => e = .returned (.tuple #[itemW (n : Int) (textQ x.fr) (textQ x.to) (textQ x.tx) x.b x.t x.d, .int .i64 0]) ∧ Below w.heap.size w w' := by
  obtain ⟨r1, r2, r3, r4⟩ := right_ofS hr
  obtain ⟨⟨b0, b1⟩, ⟨d0, d1⟩, _, t0, t1⟩ := right_of r4
  have hln := text_lenS x
  have htx : textS x = partS x.fr ++ (partS x.to ++ (partS x.tx ++ (beS 8 x.b.toNat ++ (beS 8 x.t.toNat ++ beS 8 x.d.toNat)))) := rfl
  have hrt := fun W => sright_w (n : Int) (textQ x.fr) (textQ x.to) (textQ x.tx) x.b x.t x.d W
  have hrb : (decide (((textQ x.fr).size : Int) ≤ 255) && (decide (((textQ x.to).size : Int) ≤ 255) && (decide (((textQ x.tx).size : Int) ≤ 16384) && rightT x.b x.t x.d))) = true := by
    rw [show (textQ x.fr).size = x.fr.length from rfl, show (textQ x.to).size = x.to.length from rfl, show (textQ x.tx).size = x.tx.length from rfl, decide_eq_true (by omega), decide_eq_true (by omega), decide_eq_true (by omega), r4]
    rfl
  rw [hrb] at hrt
  have s1 := fun W a b c (h : TakeSt W w.heap.size a b c (textS x)) => stpart_st (p := x.fr) (by rw [htx] at h; exact h) (by omega) (by rw [← htx]; omega)
  have s2 := fun W a b c (h : TakeSt W w.heap.size a b c (partS x.to ++ (partS x.tx ++ (beS 8 x.b.toNat ++ (beS 8 x.t.toNat ++ beS 8 x.d.toNat))))) => stpart_st h (by omega) (by have := congrArg List.length htx; simp only [List.length_append] at this ⊢; omega)
  have s3 := fun W a b c (h : TakeSt W w.heap.size a b c (partS x.tx ++ (beS 8 x.b.toNat ++ (beS 8 x.t.toNat ++ beS 8 x.d.toNat)))) => stpart_st h (by omega) (by have := congrArg List.length htx; simp only [List.length_append] at this ⊢; omega)
  have hb8 : ∀ m : Nat, m < 2 ^ 55 → numS (beS 8 m) = m := fun m h => num_backS (Nat.lt_trans h (by decide))
  have q1 := fun W a b c (h : TakeSt W w.heap.size a b c (beS 8 x.b.toNat ++ (beS 8 x.t.toNat ++ beS 8 x.d.toNat))) => stnum_st h (by rw [List.length_append, be_lenS]; omega) (by simp only [List.length_append, be_lenS]; omega) (by rw [List.take_left' (be_lenS 8 _), hb8 _ (by omega)]; omega)
  have q2 := fun W a b c (h : TakeSt W w.heap.size a b c (beS 8 x.t.toNat ++ beS 8 x.d.toNat)) => stnum_st h (by rw [List.length_append, be_lenS]; omega) (by simp only [List.length_append, be_lenS]; omega) (by rw [List.take_left' (be_lenS 8 _), hb8 _ (by omega)]; omega)
  have q3 := fun W a b c (h : TakeSt W w.heap.size a b c (beS 8 x.d.toNat)) => stnum_st h (by rw [be_lenS]; omega) (by rw [be_lenS]; omega) (by rw [List.take_of_length_le (by rw [be_lenS]; omega), hb8 _ (by omega)]; omega)
  simp only [List.take_left' (be_lenS 8 _), List.drop_left' (be_lenS 8 _), hb8 x.b.toNat (by omega)] at q1
  simp only [List.take_left' (be_lenS 8 _), List.drop_left' (be_lenS 8 _), hb8 x.t.toNat (by omega)] at q2
  have e3 : (beS 8 x.d.toNat).take 8 = beS 8 x.d.toNat := List.take_of_length_le (by rw [be_lenS]; omega)
  have e4 : (beS 8 x.d.toNat).drop 8 = [] := List.drop_eq_nil_of_le (by rw [be_lenS]; omega)
  simp only [e3, e4, hb8 x.d.toNat (by omega)] at q3
  rw [show ((x.b.toNat : Nat) : Int) = x.b by omega] at q1
  rw [show ((x.t.toNat : Nat) : Int) = x.t by omega] at q2
  rw [show ((x.d.toNat : Nat) : Int) = x.d by omega] at q3
  obtain ⟨R5, hR5⟩ : ∃ R, beS 8 x.d.toNat = R := ⟨_, rfl⟩
  rw [hR5] at q1 q2 q3 s1 s2 s3
  obtain ⟨R4, hR4⟩ : ∃ R, beS 8 x.t.toNat ++ R5 = R := ⟨_, rfl⟩
  rw [hR4] at q1 q2 s1 s2 s3
  obtain ⟨R3, hR3⟩ : ∃ R, beS 8 x.b.toNat ++ R4 = R := ⟨_, rfl⟩
  rw [hR3] at q1 s1 s2 s3
  obtain ⟨R2, hR2⟩ : ∃ R, partS x.tx ++ R3 = R := ⟨_, rfl⟩
  rw [hR2] at s1 s2 s3
  obtain ⟨R1, hR1⟩ : ∃ R, partS x.to ++ R2 = R := ⟨_, rfl⟩
  rw [hR1] at s1 s2
  obtain ⟨R0, hR0⟩ : ∃ R, textS x = R := ⟨_, rfl⟩
  rw [hR0] at s1 ⊢
  obtain ⟨F, hF⟩ : ∃ F, textQ x.fr = F := ⟨_, rfl⟩
  obtain ⟨O, hO⟩ : ∃ F, textQ x.to = F := ⟨_, rfl⟩
  obtain ⟨X, hX⟩ : ∃ F, textQ x.tx = F := ⟨_, rfl⟩
  rw [hF] at s1
  rw [hO] at s2
  rw [hX] at s3
  rw [hF, hO, hX] at hrt ⊢
  obtain ⟨bb, hbb⟩ : ∃ bb, x.b = bb := ⟨_, rfl⟩
  obtain ⟨tt, htt⟩ : ∃ bb, x.t = bb := ⟨_, rfl⟩
  obtain ⟨dd, hdd⟩ : ∃ bb, x.d = bb := ⟨_, rfl⟩
  rw [hbb] at q1
  rw [htt] at q2
  rw [hdd] at q3
  rw [hbb, htt, hdd] at hrt ⊢
  obtain ⟨Q, hQ⟩ : ∃ Q, textQ R0 = Q := ⟨_, rfl⟩
  obtain ⟨w1, hw1⟩ : ∃ w1, (((w.alloc (.cells #[.string Q] 9)).alloc (.cells #[.int .i64 0, .string ⟨#[]⟩, .string ⟨#[]⟩, .string ⟨#[]⟩, .int .i64 0, .int .i64 0, .int .i64 0] 44)).alloc (.cells #[.bool true] 4)).alloc (.cells #[.func (.func 51) #[] #[.pointer (some ⟨w.heap.size, 0, none⟩), .pointer (some ⟨w.heap.size + 1 + 1, 0, none⟩)]] 82) = w1 := ⟨_, rfl⟩
  have z1 : w1.heap.size = w.heap.size + 4 := by rw [← hw1]; simp
  have b1 : Below w.heap.size w w1 := by rw [← hw1]; exact ((((Below.refl _ _).alloc (Nat.le_refl _) _).alloc (by simp) _).alloc (by simp; omega) _).alloc (by simp; omega) _
  have g0 : w1.heap[w.heap.size]? = some (.cells #[.string Q] 9 (0, 0)) := by
    rw [← hw1, heap_alloc_old _ _ (by simp; omega), heap_alloc_old _ _ (by simp; omega), heap_alloc_old _ _ (by simp)]
    exact heap_alloc_new w _
  have g1 : ItAt w1 (w.heap.size + 1) 0 ⟨#[]⟩ ⟨#[]⟩ ⟨#[]⟩ 0 0 0 := by
    unfold ItAt
    rw [← hw1, heap_alloc_old _ _ (by simp), heap_alloc_old _ _ (by simp)]
    have h := heap_alloc_new (w.alloc (.cells #[.string Q] 9)) (.cells #[.int .i64 0, .string ⟨#[]⟩, .string ⟨#[]⟩, .string ⟨#[]⟩, .int .i64 0, .int .i64 0, .int .i64 0] 44)
    rw [World.size_alloc] at h
    exact h
  have g2 : w1.heap[w.heap.size + 1 + 1]? = some (.cells #[.bool true] 4 (0, 0)) := by
    rw [← hw1, heap_alloc_old _ _ (by simp)]
    have h := heap_alloc_new ((w.alloc (.cells #[.string Q] 9)).alloc (.cells #[.int .i64 0, .string ⟨#[]⟩, .string ⟨#[]⟩, .string ⟨#[]⟩, .int .i64 0, .int .i64 0, .int .i64 0] 44)) (.cells #[.bool true] 4)
    rw [World.size_alloc, World.size_alloc] at h
    exact h
  have g3 : w1.heap[w.heap.size + 1 + 1 + 1]? = some (.cells #[.func (.func 51) #[] #[.pointer (some ⟨w.heap.size, 0, none⟩), .pointer (some ⟨w.heap.size + 1 + 1, 0, none⟩)]] 82 (0, 0)) := by
    rw [← hw1]
    have h := heap_alloc_new (((w.alloc (.cells #[.string Q] 9)).alloc (.cells #[.int .i64 0, .string ⟨#[]⟩, .string ⟨#[]⟩, .string ⟨#[]⟩, .int .i64 0, .int .i64 0, .int .i64 0] 44)).alloc (.cells #[.bool true] 4)) (.cells #[.func (.func 51) #[] #[.pointer (some ⟨w.heap.size, 0, none⟩), .pointer (some ⟨w.heap.size + 1 + 1, 0, none⟩)]] 82)
    rw [World.size_alloc, World.size_alloc, World.size_alloc] at h
    exact h
  rw [← hQ] at g0
  have h1 : TakeSt w1 w.heap.size w.heap.size (w.heap.size + 1 + 1) (w.heap.size + 1 + 1 + 1) R0 := ⟨g0, g2, g3, ⟨by omega, by omega, by omega⟩, ⟨by omega, by omega, by omega⟩⟩
  have c1 := s1 w1 _ _ _ h1
  have K1 := Lib.hid (And.intro b1 (And.intro g1 z1))
  have S2 := Lib.hid s2
  have S3 := Lib.hid s3
  have Q1 := Lib.hid q1
  have Q2 := Lib.hid q2
  have Q3 := Lib.hid q3
  have HRt := Lib.hid hrt
  have hn1 : ¬ ((n : Int) < 1) := by omega
  have et := enter_tnum
  have ep := enter_tpart
  have hmf : ∀ (fn : Fn) (first cap : Array Value) (w : World), (Instr.makeFunc fn first cap).run Tryz.prog w = .ok (.func fn first cap) w := fun _ _ _ _ => rfl
  clear s1 s2 s3 q1 q2 q3 hrt h1 g0 g1 g2 g3 b1 z1 hR0 hR1 hR2 hR3 hR4 hR5 hF hO hX hbb htt hdd e3 e4 hb8 hrb htx hln r1 r2 r3 r4 b0 d0 d1 t0 t1 hr hn
  rw [hQ]
  clear hQ
  go_enter Tryz.func26, Tryz.ntmps26
  go_wp2_with fail
  refine c1.mono ?_
  rintro e w2 ⟨rfl, h2, t2⟩
  have K2 := Lib.hid (And.intro (K1.out.1.trans (t2.below (B := w.heap.size) (by have := K1.out.2.2; omega) (fun x hx => by omega))) (And.intro (t2.heap K1.out.2.1 (fun e => by omega)) (show w.heap.size + 4 ≤ w2.heap.size by have := K1.out.2.2; have := t2.size; omega)))
  have c2 := S2.out w2 _ _ _ h2
  clear c1 h2 t2
  go_wp2_with fail
  refine c2.mono ?_
  rintro e w3 ⟨rfl, h3, t3⟩
  have K3 := Lib.hid (And.intro (K2.out.1.trans (t3.below (B := w.heap.size) (by have := K2.out.2.2; omega) (fun x hx => by omega))) (And.intro (t3.heap K2.out.2.1 (fun e => by omega)) (show w.heap.size + 4 ≤ w3.heap.size by have := K2.out.2.2; have := t3.size; omega)))
  have c3 := S3.out w3 _ _ _ h3
  clear c2 h3 t3 K2
  go_wp2_with fail
  refine c3.mono ?_
  rintro e w4 ⟨rfl, h4, t4⟩
  obtain ⟨V, hV⟩ : ∃ V, w4.alloc (.cells #[.int .i64 (n : Int), .string F, .string O, .string X, .int .i64 0, .int .i64 0, .int .i64 0] 44) = V := ⟨_, rfl⟩
  have bV : Below w4.heap.size w4 V := by rw [← hV]; exact (Below.refl _ _).alloc (Nat.le_refl _) _
  have iV : ItAt V w4.heap.size n F O X 0 0 0 := by rw [← hV]; exact it_new w4 _ _ _ _ _ _ _
  have K4 := Lib.hid (And.intro ((K3.out.1.trans (t4.below (B := w.heap.size) (by have := K3.out.2.2; omega) (fun x hx => by omega))).trans (bV.mono (by have := K3.out.2.2; have := t4.size; omega))) (And.intro ((bV.block _ (by have := K3.out.2.2; have := t4.size; omega)).trans (t4.heap K3.out.2.1 (fun e => by omega))) (And.intro iV (And.intro (show w.heap.size + 4 ≤ w4.heap.size by have := K3.out.2.2; have := t4.size; omega) iV.lt))))
  have hTV : TakeSt V w.heap.size w.heap.size (w.heap.size + 1 + 1) (w.heap.size + 1 + 1 + 1) R3 := ⟨(bV.block _ (by have := h4.s.lt; omega)).trans h4.s, (bV.block _ h4.o.lt).trans h4.o, (bV.block _ h4.f.lt).trans h4.f, h4.ap, ⟨h4.lo.1, h4.lo.2.1, Nat.le_trans h4.lo.2.2 bV.size⟩⟩
  have c4 := Q1.out V _ _ _ hTV
  rw [← hV] at c4
  have HV := Lib.hid hV
  clear c3 h4 t4 K3 bV iV hTV hV
  go_wp2_with fail
  refine c4.mono ?_
  rintro e w5 ⟨rfl, h5, t5⟩
  rw [HV.out] at t5
  have K5 := Lib.hid (And.intro (K4.out.1.trans (t5.below (B := w.heap.size) (by have := K4.out.2.2.2; omega) (fun x hx => by omega))) (And.intro (t5.heap K4.out.2.1 (fun e => by omega)) (And.intro (t5.heap K4.out.2.2.1 (fun e => by have := K4.out.2.2.2; omega)) (show w4.heap.size < w5.heap.size by have := K4.out.2.2.2; have := t5.size; omega))))
  have c5 := Q2.out w5 _ _ _ h5
  clear c4 h5 t5
  go_wp2_with fail
  refine c5.mono ?_
  rintro e w6 ⟨rfl, h6, t6⟩
  have K6 := Lib.hid (And.intro (K5.out.1.trans (t6.below (B := w.heap.size) (by have := K4.out.2.2.2; have := K5.out.2.2.2; omega) (fun x hx => by omega))) (And.intro (t6.heap K5.out.2.1 (fun e => by omega)) (And.intro (t6.heap K5.out.2.2.1 (fun e => by have := K4.out.2.2.2; omega)) (show w4.heap.size < w6.heap.size by have := K5.out.2.2.2; have := t6.size; omega))))
  have c6 := Q3.out w6 _ _ _ h6
  clear c5 h6 t6 K5
  go_wp2_with fail
  refine c6.mono ?_
  rintro e w7 ⟨rfl, h7, t7⟩
  have i7 : ItAt w7 w4.heap.size n F O X 0 0 0 := t7.heap K6.out.2.2.1 (fun e => by have := K4.out.2.2.2; omega)
  have o7 : ItAt w7 (w.heap.size + 1) 0 ⟨#[]⟩ ⟨#[]⟩ ⟨#[]⟩ 0 0 0 := t7.heap K6.out.2.1 (fun e => by omega)
  have b7 := K6.out.1.trans (t7.below (B := w.heap.size) (by have := K4.out.2.2.2; have := K6.out.2.2.2; omega) (fun x hx => by omega))
  obtain ⟨x0, x1, x2, x3, x4, x5, x6, f0, f1, f2, f3, f4, f5, f6⟩ := i7.cells
  obtain ⟨w8, hw8⟩ : ∃ w8, ((w7.setCell ⟨w4.heap.size, 4, none⟩ (.int .i64 bb)).setCell ⟨w4.heap.size, 5, none⟩ (.int .i64 tt)).setCell ⟨w4.heap.size, 6, none⟩ (.int .i64 dd) = w8 := ⟨_, rfl⟩
  have i8 : ItAt w8 w4.heap.size n F O X bb tt dd := by
    rw [← hw8]
    have e1 := heap_setCell_same w7 w4.heap.size 4 _ _ (.int .i64 bb) i7
    have e2 := heap_setCell_same _ w4.heap.size 5 _ _ (.int .i64 tt) e1
    exact heap_setCell_same _ w4.heap.size 6 _ _ (.int .i64 dd) e2
  have k8 : ∀ g, g ≠ w4.heap.size → w8.heap[g]? = w7.heap[g]? := fun g hg => by
    rw [← hw8]
    exact (Below.heap_setCell _ ⟨w4.heap.size, 6, none⟩ _ g hg).trans ((Below.heap_setCell _ ⟨w4.heap.size, 5, none⟩ _ g hg).trans (Below.heap_setCell w7 ⟨w4.heap.size, 4, none⟩ _ g hg))
  have b8 : Below w.heap.size w w8 := by
    rw [← hw8]
    have hz : w.heap.size ≤ w4.heap.size := by have := K4.out.2.2.2; omega
    exact ((b7.setCell (p := ⟨w4.heap.size, 4, none⟩) hz _).setCell (p := ⟨w4.heap.size, 5, none⟩) hz _).setCell (p := ⟨w4.heap.size, 6, none⟩) hz _
  have hk4 := K4.out.2.2.2
  have o8 : ItAt w8 (w.heap.size + 1) 0 ⟨#[]⟩ ⟨#[]⟩ ⟨#[]⟩ 0 0 0 := (k8 _ (by omega)).trans o7
  have s8 := Lib.cell_of_heap ((k8 w.heap.size (by omega)).trans h7.s) 0
  have p8 := Lib.cell_of_heap ((k8 (w.heap.size + 1 + 1) (by omega)).trans h7.o) 0
  obtain ⟨v0, v1, v2, v3, v4, v5, v6, _⟩ := i8.cells
  have c8 := HRt.out w8
  have K8 := Lib.hid (And.intro b8 (And.intro i8 o8))
  have hZ : textQ [] = (⟨#[]⟩ : ByteArray) := rfl
  rw [hZ] at s8
  clear c6 h7 t7 K6 i7 o7 b7 i8 k8 b8 hk4 o8 K4 hZ
  go_wp2_with fail
  refine c8.mono ?_
  rintro e w9 ⟨rfl, hb⟩
  have i9 := K8.out.2.1.below hb
  have o9 := K8.out.2.2.below hb
  clear x0 x1 x2 x3 x4 x5 x6 f0 f1 f2 f3 f4 f5 f6 v0 v1 v2 v3 v4 v5 v6 s8 p8
  obtain ⟨v0, v1, v2, v3, v4, v5, v6, _⟩ := i9.cells
  obtain ⟨u0, u1, u2, u3, u4, u5, u6, f0, f1, f2, f3, f4, f5, f6⟩ := o9.cells
  have KP := Lib.hid o9
  have Fin := Lib.hid (below_putI (K8.out.1.trans (hb.mono K8.out.1.size)) (show w.heap.size ≤ w.heap.size + 1 by omega) (n : Int) F O X bb tt dd)
  unfold putI at Fin
  clear c8 hb i9 o9 K8 hw8 hw1 HV et ep hmf
  go_wp2
  obtain ⟨g0, g1, g2, g3, g4, g5, g6, _⟩ := (KP.out.put (n : Int) F O X bb tt dd).cells
  unfold putI at g0 g1 g2 g3 g4 g5 g6
  refine bodyPost_ret (v := .tuple #[.agg #[.int .i64 (n : Int), .string F, .string O, .string X, .int .i64 bb, .int .i64 tt, .int .i64 dd], .int .i64 0]) (by simp [results, Tryz.f26, go_sem, g0, g1, g2, g3, g4, g5, g6]) rfl ?_
  exact ⟨rfl, Fin.out⟩
end Go.Proofs.YtgpdplffljidbaaGreatDoor
