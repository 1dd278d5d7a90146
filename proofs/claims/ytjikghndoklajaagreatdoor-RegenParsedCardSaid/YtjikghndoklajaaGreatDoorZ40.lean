/-
  Texts of this proof, put together: CtE.
-/
import Derived.Test.YtjikghndoklajaaGreatDoorZ19
import Derived.Test.YtjikghndoklajaaGreatDoorZ11
namespace Go.Proofs.YtjikghndoklajaaGreatDoor
open Go.RowKit

theorem wbC (B b : Nat) (acc : TextA) (c : UInt8) (W : World) (h : Lib.IsBuilder 113 5 B b (Lib.byteCells acc) W) (hl : acc.length ≤ 1000000000) (hB : B ≤ W.heap.size) :
    Calls Tryz.prog 123 #[.pointer (some ⟨b, 0, none⟩), .int .u8 (c.toNat : Int)] W fun e w' => e = .returned .nilIface ∧ Lib.IsBuilder 113 5 B b (Lib.byteCells (acc ++ [c])) w' ∧ Below B W w' ∧ Lib.OthersKept 5 (some b) W w' ∧ B ≤ w'.heap.size :=
  (wbyte_k B b acc c W h (by omega) hB).mono fun e w' ⟨he, q1, q2, q3, q4⟩ => ⟨he, .inr q1, q2, q3, Nat.le_trans hB q4⟩
theorem wsC (B b : Nat) (acc : TextA) (S : ByteArray) (W : World) (h : Lib.IsBuilder 113 5 B b (Lib.byteCells acc) W) (hl : acc.length ≤ 1000000000) (hS : S.size ≤ 1000000000) (hB : B ≤ W.heap.size) :
    Calls Tryz.prog 74 #[.pointer (some ⟨b, 0, none⟩), .string S] W fun e w' => (e = .returned (.tuple #[.int .i64 S.size, .nilIface])) ∧ Lib.IsBuilder 113 5 B b (Lib.byteCells (acc ++ S.data.toList)) w' ∧ Below B W w' ∧ Lib.OthersKept 5 (some b) W w' ∧ B ≤ w'.heap.size := by
  have h1 := bwrite_kA B b (Lib.byteCells acc) S W h (by rw [Lib.byteCells_length]; omega) hB
  rw [show Lib.byteCells acc ++ Lib.strCells S = Lib.byteCells (acc ++ S.data.toList) by rw [Lib.byteCells_append]; rfl] at h1
  exact h1.mono fun e w' ⟨he, q1, q2, q3, q4⟩ => ⟨he, .inr q1, q2, q3, Nat.le_trans hB q4⟩
theorem tells_snoc (v : TextA) (i : Nat) (h : i < v.length) : (v.take (i + 1)).flatMap tellA = (v.take i).flatMap tellA ++ tellA v[i] := by
  rw [List.take_succ_eq_append_getElem h, List.flatMap_append]
  simp

set_option maxRecDepth 100000 in
set_option maxHeartbeats 4000000 in
theorem cwritev_any (B b : Nat) (acc : TextA) (v : TextA) (w : World) (h : Lib.IsBuilder 113 5 B b (Lib.byteCells acc) w) (hB : B ≤ w.heap.size) (ha : acc.length ≤ 100000000) (hv : v.length ≤ 1000000) :
    Calls Tryz.prog 124 #[.pointer (some ⟨b, 0, none⟩), .string (textQ v)] w fun e w' => e = .returned (.tuple #[]) ∧ Lib.IsBuilder 113 5 B b (Lib.byteCells (acc ++ valTextC v)) w' ∧ Below B w w' ∧ B ≤ w'.heap.size := by
  have ht := fun W => cistok_any (textQ v) W
  simp only [show (textQ v).data.toList = v from rfl] at ht
  cases hq : tokT v with
  | true =>
    rw [show valTextC v = v by unfold valTextC; rw [hq, if_pos rfl]]
    simp only [hq] at ht
    have hw := wsC B b acc (textQ v) w h (by omega) (by show v.length ≤ _; omega) hB
    rw [show (textQ v).data.toList = v from rfl] at hw
    obtain ⟨V, hV⟩ : ∃ V, textQ v = V := ⟨_, rfl⟩
    rw [hV] at hw ⊢
    simp only [hV] at ht
    clear hV hq h
    go_enter Tryz.func124, Tryz.ntmps124
    go_wp2_with (first | (go_at_call 79; refine (ht _).mono ?_; rintro e w1 ⟨rfl, h9⟩; obtain rfl := h9.symm) | (go_at_call 74; refine hw.mono ?_; rintro e w2 ⟨rfl, q1, q2, q3, q4⟩))
    exact bodyPost_ret (results_none rfl _ _ _) rfl ⟨rfl, q1, q2, q4⟩
  | false =>
    have e9 : valTextC v = 34 :: (v.flatMap tellA ++ [34]) := by unfold valTextC quoteA; rw [hq, if_neg (by simp)]
    simp only [hq] at ht
    have h34 : Calls Tryz.prog 123 #[.pointer (some ⟨b, 0, none⟩), .int .u8 34] w fun e w' => e = .returned .nilIface ∧ Lib.IsBuilder 113 5 B b (Lib.byteCells (acc ++ [34])) w' ∧ Below B w w' ∧ Lib.OthersKept 5 (some b) w w' ∧ B ≤ w'.heap.size := wbC B b acc 34 w h (by omega) hB
    obtain ⟨V, hV⟩ : ∃ V, textQ v = V := ⟨_, rfl⟩
    have hVs : V.size = v.length := by rw [← hV]; rfl
    have hVd : V.data.toList = v := by rw [← hV]; rfl
    simp only [hV] at ht
    rw [hV]
    obtain ⟨n, hn⟩ : ∃ n, V.size = n := ⟨_, rfl⟩
    have HN := Lib.hid (And.intro hVd (And.intro hVs hn))
    have hn9 : n ≤ 1000000 := by omega
    have E9 := Lib.hid e9
    clear hV hq h e9 hVs hVd
    go_enter Tryz.func124, Tryz.ntmps124
    go_wp2_with (first | (go_at_call 79; refine (ht _).mono ?_; rintro e w1 ⟨rfl, h9⟩; obtain rfl := h9.symm) | (go_at_call 123; refine h34.mono ?_; rintro e w2 ⟨rfl, q1, q2, q3, q4⟩))
    have Q1 := Lib.hid (show Lib.IsBuilder 113 5 B b (Lib.byteCells (acc ++ 34 :: (v.take 0).flatMap tellA)) w2 from q1)
    clear h34 q1 q3 ht
    go_loopw [14] (fun iv wr => ∃ i : Nat, i ≤ n ∧ iv = .int .i64 i ∧ Hid (Lib.IsBuilder 113 5 B b (Lib.byteCells (acc ++ 34 :: (v.take i).flatMap tellA)) wr) ∧ Below B w wr ∧ B ≤ wr.heap.size) (fun iv _ => n - (intOf iv).toNat)
    case atStart => exact ⟨0, by omega, rfl, Q1, q2, q4⟩
    case round =>
      obtain ⟨i, hi, rfl, hib, hbr, hbz⟩ := hrel
      clear q2 q4 Q1
      by_cases hlt : i < n
      · have hlv : i < v.length := by have := HN.out.2.1; omega
        have hsn := tells_snoc v i hlv
        have hlen : ((v.take i).flatMap tellA).length ≤ 2000000 := by
          have := tells_len (v.take i)
          rw [List.length_take] at this
          omega
        have hlS : i < V.size := by omega
        have hbyte : V[i] = v[i] := by
          have : V.data.toList[i]'(by show i < V.size; omega) = v[i] := by simp only [HN.out.1]
          exact this
        obtain ⟨c, hc⟩ : ∃ c, v[i] = c := ⟨_, rfl⟩
        rw [hc] at hsn hbyte
        have hcn : (V[i].toNat : Int) = c.toNat := by rw [hbyte]
        have H0 := hib.out
        by_cases he : c = 34 ∨ c = 92
        · rw [show tellA c = [92, c] by unfold tellA; rw [if_pos he]] at hsn
          have h1 : Calls Tryz.prog 123 #[.pointer (some ⟨b, 0, none⟩), .int .u8 92] wr fun e w' => e = .returned .nilIface ∧ Lib.IsBuilder 113 5 B b (Lib.byteCells (acc ++ 34 :: (v.take i).flatMap tellA ++ [92])) w' ∧ Below B wr w' ∧ Lib.OthersKept 5 (some b) wr w' ∧ B ≤ w'.heap.size := wbC B b _ 92 wr H0 (by simp only [List.length_append, List.length_cons]; omega) hbz
          have h2 : Hid (∀ W, Lib.IsBuilder 113 5 B b (Lib.byteCells (acc ++ 34 :: (v.take i).flatMap tellA ++ [92])) W → B ≤ W.heap.size → Calls Tryz.prog 123 #[.pointer (some ⟨b, 0, none⟩), .int .u8 (V[i].toNat : Int)] W fun e w' => e = .returned .nilIface ∧ Lib.IsBuilder 113 5 B b (Lib.byteCells (acc ++ 34 :: (v.take (i + 1)).flatMap tellA)) w' ∧ Below B W w' ∧ Lib.OthersKept 5 (some b) W w' ∧ B ≤ w'.heap.size) := Lib.hid fun W hW hBW => by
            have := wbC B b _ c W hW (by simp only [List.length_append, List.length_cons, List.length_nil]; omega) hBW
            rw [hcn, hsn]
            rw [show acc ++ 34 :: (v.take i).flatMap tellA ++ [92] ++ [c] = acc ++ 34 :: ((v.take i).flatMap tellA ++ [92, c]) by simp] at this
            exact this
          have f3 : ((V[i].toNat : Int) == 34) = true ∨ (((V[i].toNat : Int) == 34) = false ∧ ((V[i].toNat : Int) == 92) = true) := by
            rw [hcn]
            rcases he with rfl | rfl
            · exact .inl rfl
            · exact .inr ⟨rfl, rfl⟩
          clear hib H0 hlv hsn hlen hbyte hc hcn he
          rcases f3 with f1 | ⟨f1, f2⟩
          all_goals
            go_wp2_with fail
            refine h1.mono ?_
            rintro e w3 ⟨rfl, q1, q2, q3, q4⟩
            have h3 := h2.out w3 q1 q4
            have b3 := hbr.trans q2
            clear h1 h2 q1 q2 q3 q4
            go_wp2_with fail
            refine h3.mono ?_
            rintro e w4 ⟨rfl, q1, q2, q3, q4⟩
            have b4 := b3.trans q2
            have Q4 := Lib.hid q1
            clear h3 q1 q2 q3 b3 hbr
            go_wp2
            go_roundw
            case rel => exact ⟨i + 1, by omega, by go_num, Q4, b4, q4⟩
            case measure => simp [intOf]; omega
        · rw [show tellA c = [c] by unfold tellA; rw [if_neg he]] at hsn
          have h2 : Calls Tryz.prog 123 #[.pointer (some ⟨b, 0, none⟩), .int .u8 (V[i].toNat : Int)] wr fun e w' => e = .returned .nilIface ∧ Lib.IsBuilder 113 5 B b (Lib.byteCells (acc ++ 34 :: (v.take (i + 1)).flatMap tellA)) w' ∧ Below B wr w' ∧ Lib.OthersKept 5 (some b) wr w' ∧ B ≤ w'.heap.size := by
            have := wbC B b _ c wr H0 (by simp only [List.length_append, List.length_cons]; omega) hbz
            rw [hcn, hsn]
            rw [show acc ++ 34 :: (v.take i).flatMap tellA ++ [c] = acc ++ 34 :: ((v.take i).flatMap tellA ++ [c]) by simp] at this
            exact this
          have f1 : ((V[i].toNat : Int) == 34) = false := by
            rw [hcn, beq_eq_false_iff_ne]
            exact fun e => he (.inl (UInt8.toNat_inj.1 (by show c.toNat = 34; omega)))
          have f2 : ((V[i].toNat : Int) == 92) = false := by
            rw [hcn, beq_eq_false_iff_ne]
            exact fun e => he (.inr (UInt8.toNat_inj.1 (by show c.toNat = 92; omega)))
          clear hib H0 hlv hsn hlen hbyte hc hcn he
          go_wp2_with fail
          refine h2.mono ?_
          rintro e w4 ⟨rfl, q1, q2, q3, q4⟩
          have b4 := hbr.trans q2
          have Q4 := Lib.hid q1
          clear h2 q1 q2 q3 hbr
          go_wp2
          go_roundw
          case rel => exact ⟨i + 1, by omega, by go_num, Q4, b4, q4⟩
          case measure => simp [intOf]; omega
      · obtain rfl : i = n := by omega
        have H0 := hib.out
        rw [List.take_of_length_le (by have := HN.out.2.1; omega)] at H0
        have hlen : (v.flatMap tellA).length ≤ 2000000 := by
          have := tells_len v
          omega
        have h1 : Calls Tryz.prog 123 #[.pointer (some ⟨b, 0, none⟩), .int .u8 34] wr fun e w' => e = .returned .nilIface ∧ Lib.IsBuilder 113 5 B b (Lib.byteCells (acc ++ 34 :: v.flatMap tellA ++ [34])) w' ∧ Below B wr w' ∧ Lib.OthersKept 5 (some b) wr w' ∧ B ≤ w'.heap.size := wbC B b _ 34 wr H0 (by simp only [List.length_append, List.length_cons]; omega) hbz
        rw [show acc ++ 34 :: v.flatMap tellA ++ [34] = acc ++ 34 :: (v.flatMap tellA ++ [34]) by simp, ← E9.out] at h1
        clear hib H0 hlen
        go_wp2_with fail
        refine h1.mono ?_
        rintro e w4 ⟨rfl, q1, q2, q3, q4⟩
        have b4 := hbr.trans q2
        clear h1 q2 q3 hbr
        go_wp2
        exact bodyPost_end (results_none rfl _ _ _) rfl ⟨rfl, q1, b4, q4⟩

def printV12 (t : TypeC) : Value := .tuple #[.string (textQ (printC t).1), .int .i64 (printC t).2]
theorem print_bad12 {t : TypeC} (h : rightC t = false) : printV12 t = .tuple #[.string ⟨#[]⟩, .int .i64 2] := by
  unfold printV12 printC
  rw [h]
  rfl
theorem print_good12 {t : TypeC} (h : rightC t = true) : printV12 t = .tuple #[.string (textQ (textC t)), .int .i64 0] := by
  unfold printV12 printC
  rw [h]
  rfl
def headC (t : TypeC) (k : Nat) : TextA := t.1 ++ (47 :: (t.2.1 ++ (t.2.2.take k).flatMap parTextC))
theorem head_snoc (t : TypeC) (k : Nat) (h : k < t.2.2.length) : headC t (k + 1) = headC t k ++ ([59, 32] ++ (t.2.2[k].1 ++ ([61] ++ valTextC t.2.2[k].2))) := by
  unfold headC
  rw [List.take_succ_eq_append_getElem h, List.flatMap_append, List.flatMap_singleton]
  unfold parTextC
  simp
theorem headC_len {t : TypeC} (h : rightC t = true) (k : Nat) : (headC t k).length ≤ 3000 := by
  obtain ⟨h1, h2, h3, h4⟩ := right_parts h
  have := pars_len (t.2.2.take k) (fun p hp => h4 p (List.mem_of_mem_take hp))
  have h5 : (t.2.2.take k).length ≤ 8 := by rw [List.length_take]; omega
  unfold headC
  simp only [List.length_cons, List.length_append]
  omega

set_option maxRecDepth 100000 in
set_option maxHeartbeats 8000000 in
theorem cprint_any (B : Nat) (v : Value) (t : TypeC) (w : World) (h : ParsAt w B v t.2.2) (hB : B ≤ w.heap.size) :
    Calls Tryz.prog 87 #[typeV t v] w fun e w' => e = .returned (printV12 t) ∧ Below w.heap.size w w' := by
  obtain ⟨ao, cap, rfl, hc1, hc2⟩ := h.slice
  have hr : Hid (∀ W, Below w.heap.size w W → Calls Tryz.prog 46 #[.agg #[.string (textQ t.1), .string (textQ t.2.1), .slice ao t.2.2.length cap]] W fun e w' => e = .returned (.bool (rightC t)) ∧ Below W.heap.size W w') := Lib.hid fun W hW => cright_any B _ t W (h.below hW hB) (Nat.le_trans hB hW.size)
  have Hat : Hid (∀ W, Below w.heap.size w W → ∀ i (hi : i < t.2.2.length), ∃ g off, ao = some ⟨g, off, none⟩ ∧ g < B ∧ W.cell? ⟨g, off + i * 2, none⟩ = some (.string (textQ t.2.2[i].1)) ∧ W.cell? ⟨g, off + i * 2 + 1, none⟩ = some (.string (textQ t.2.2[i].2))) := Lib.hid fun W hW i hi => by
    obtain ⟨ao2, cap2, e, _, _, h4⟩ := h.below hW hB
    cases e
    exact h4 i hi
  unfold typeV
  unfold maxLen at hc2
  obtain ⟨X, hX⟩ : ∃ X, textQ t.1 = X := ⟨_, rfl⟩
  obtain ⟨Y, hY⟩ : ∃ Y, textQ t.2.1 = Y := ⟨_, rfl⟩
  obtain ⟨n, hn⟩ : ∃ n, t.2.2.length = n := ⟨_, rfl⟩
  rw [hX, hY, hn] at hr
  rw [hn] at hc1
  rw [hX, hY, hn]
  obtain ⟨w0, hw0⟩ : ∃ w0, w.alloc (.cells #[.string X, .string Y, .slice ao n cap] 26) = w0 := ⟨_, rfl⟩
  have b0 : Below w.heap.size w w0 := by rw [← hw0]; exact (Below.refl _ _).alloc (Nat.le_refl _) _
  have z0 : w.heap.size < w0.heap.size := by rw [← hw0]; simp
  have t0 : TypAt w0 w.heap.size X Y ao n cap := by rw [← hw0]; exact typ_new w _ _ _ _ _
  obtain ⟨c0, c1, c2, _⟩ := t0.cells
  have T0 := Lib.hid t0
  have hr0 := hr.out w0 b0
  clear h hr t0
  cases hq : rightC t with
  | false =>
    rw [hq] at hr0
    rw [print_bad12 hq]
    clear hX hY hn hq
    go_enter Tryz.func87, Tryz.ntmps87
    go_wp2_with (go_at_call 46; refine hr0.mono ?_; rintro e w1 ⟨rfl, hw1⟩)
    go_ret2
    exact ⟨rfl, b0.trans (hw1.mono b0.size)⟩
  | true =>
    rw [hq] at hr0
    have Hr := Lib.hid (print_good12 hq)
    have Hl := Lib.hid (fun k => headC_len hq k)
    have Hpl := Lib.hid (right_parts hq)
    have HX := Lib.hid (And.intro hX (And.intro hY hn))
    obtain ⟨PV, hPV⟩ : ∃ PV, printV12 t = PV := ⟨_, rfl⟩
    rw [hPV] at Hr ⊢
    have hXs : X.size ≤ 64 := by rw [← hX]; exact Hpl.out.1
    have hYs : Y.size ≤ 64 := by rw [← hY]; exact Hpl.out.2.1
    have hn8 : n ≤ 8 := by rw [← hn]; exact Hpl.out.2.2.1
    clear hq hPV hX hY hn
    go_enter Tryz.func87, Tryz.ntmps87
    go_wp2_with fail
    refine hr0.mono ?_
    rintro e w1 ⟨rfl, hw1⟩
    have hbd := Lib.fresh_isBuilder 113 5 w1
    obtain ⟨w2, hw2⟩ : ∃ w2, w1.alloc (.cells #[.pointer none, .slice none 0 0] 113) = w2 := ⟨_, rfl⟩
    have l2 : Below w1.heap.size w1 w2 := by rw [← hw2]; exact (Below.refl _ _).alloc (Nat.le_refl _) _
    rw [hw2] at hbd
    have t2 := (T0.out.below hw1).below l2
    have b2 := (b0.trans (hw1.mono b0.size)).trans (l2.mono (by have := hw1.size; omega))
    obtain ⟨d0, d1, d2, _⟩ := t2.cells
    have z1 : w.heap.size < w1.heap.size := by have := hw1.size; omega
    have B0 : Hid (∀ W, Below w1.heap.size w2 W → Below w.heap.size w W ∧ TypAt W w.heap.size X Y ao n cap) := Lib.hid fun W hW => ⟨b2.trans (hW.mono (by omega)), (hW.block _ z1).trans t2⟩
    obtain ⟨b, hb⟩ : ∃ b, w1.heap.size = b := ⟨_, rfl⟩
    have hs1 := wsC w1.heap.size w1.heap.size [] X w2 hbd (by simp) (by omega) l2.size
    have hb3 : Hid (∀ W acc, acc.length ≤ 4000 → Lib.IsBuilder 113 5 w1.heap.size w1.heap.size (Lib.byteCells acc) W → w1.heap.size ≤ W.heap.size → Calls Tryz.prog 123 #[.pointer (some ⟨w1.heap.size, 0, none⟩), .int .u8 47] W fun e w' => e = .returned .nilIface ∧ Lib.IsBuilder 113 5 w1.heap.size w1.heap.size (Lib.byteCells (acc ++ [47])) w' ∧ Below w1.heap.size W w' ∧ Lib.OthersKept 5 (some w1.heap.size) W w' ∧ w1.heap.size ≤ w'.heap.size) := Lib.hid fun W acc ha hI hz => wbC _ _ acc 47 W hI (by omega) hz
    have hb4 : Hid (∀ W acc, acc.length ≤ 4000 → Lib.IsBuilder 113 5 w1.heap.size w1.heap.size (Lib.byteCells acc) W → w1.heap.size ≤ W.heap.size → Calls Tryz.prog 123 #[.pointer (some ⟨w1.heap.size, 0, none⟩), .int .u8 61] W fun e w' => e = .returned .nilIface ∧ Lib.IsBuilder 113 5 w1.heap.size w1.heap.size (Lib.byteCells (acc ++ [61])) w' ∧ Below w1.heap.size W w' ∧ Lib.OthersKept 5 (some w1.heap.size) W w' ∧ w1.heap.size ≤ w'.heap.size) := Lib.hid fun W acc ha hI hz => wbC _ _ acc 61 W hI (by omega) hz
    clear hr0 hw1 l2 t2 b2 hbd hb T0
    go_wp2_with fail
    refine hs1.mono ?_
    rintro e w3 ⟨rfl, q1, q2, q3, q4⟩
    obtain ⟨x0, x1, x2, _⟩ := (B0.out w3 q2).2.cells
    have h47 := hb3.out w3 _ (by show X.size ≤ _; omega) q1 q4
    clear hs1 q1 q3 q4 hb3
    go_wp2_with fail
    refine h47.mono ?_
    rintro e w4 ⟨rfl, q1, q5, q3, q4⟩
    have q6 := q2.trans q5
    obtain ⟨x0, x1, x2, _⟩ := (B0.out w4 q6).2.cells
    have hs2 := wsC w1.heap.size w1.heap.size _ Y w4 q1 (by rw [List.nil_append, List.length_append]; show X.size + 1 ≤ _; omega) (by omega) q4
    clear h47 q1 q3 q4 q2 q5
    go_wp2_with fail
    refine hs2.mono ?_
    rintro e w5 ⟨rfl, q1, q5, q3, q4⟩
    have q7 := q6.trans q5
    obtain ⟨x0, x1, x2, _⟩ := (B0.out w5 q7).2.cells
    have hI : Lib.IsBuilder 113 5 w1.heap.size w1.heap.size (Lib.byteCells (headC t 0)) w5 := by
      have e : headC t 0 = [] ++ X.data.toList ++ [47] ++ Y.data.toList := by
        rw [← HX.out.1, ← HX.out.2.1]
        unfold headC
        simp [textQ]
      rw [e]
      exact q1
    have HI := Lib.hid hI
    have z5 := q7.size
    clear hs2 q1 q3 q5 q6 hI
    go_wp2
    go_loopw [20] (fun iv wx => ∃ k : Nat, k ≤ n ∧ iv = .int .i64 k ∧ Hid (Lib.IsBuilder 113 5 w1.heap.size w1.heap.size (Lib.byteCells (headC t k)) wx) ∧ Below w1.heap.size w2 wx ∧ w1.heap.size ≤ wx.heap.size) (fun iv _ => n - (intOf iv).toNat)
    case atStart => exact ⟨0, by omega, rfl, HI, q7, q4⟩
    case round =>
      obtain ⟨k, hk, rfl, hib, hbw, hzw⟩ := hrel
      clear HI q7 q4 x0 x1 x2
      by_cases hlk : k < n
      · have hil : k < t.2.2.length := by have := HX.out.2.2; omega
        obtain ⟨g, off, rfl, hgB, y0, y1⟩ := Hat.out wr (B0.out wr hbw).1 k hil
        obtain ⟨m1, m2⟩ := Hpl.out.2.2.2 _ (List.getElem_mem hil)
        have hsn := head_snoc t k hil
        have hhl := Hl.out k
        have H0 := hib.out
        obtain ⟨f, hf⟩ : ∃ f, t.2.2[k] = f := ⟨_, rfl⟩
        rw [hf] at y0 y1 m1 m2 hsn
        obtain ⟨acc, hacc⟩ : ∃ acc, headC t k = acc := ⟨_, rfl⟩
        rw [hacc] at H0 hsn hhl
        obtain ⟨N, hN⟩ : ∃ N, textQ f.1 = N := ⟨_, rfl⟩
        obtain ⟨V, hV⟩ : ∃ V, textQ f.2 = V := ⟨_, rfl⟩
        have hNs : N.size ≤ 64 := by rw [← hN]; exact m1
        have hNd : N.data.toList = f.1 := by rw [← hN]; rfl
        obtain ⟨wa, hwa⟩ : ∃ wa, wr.alloc (.cells #[.string N, .string V] 57) = wa := ⟨_, rfl⟩
        have la : Below wr.heap.size wr wa := by rw [← hwa]; exact (Below.refl _ _).alloc (Nat.le_refl _) _
        have na : ParAt wa wr.heap.size N V := by rw [← hwa]; exact par_new wr N V
        have hba := isbuilder_below H0 la
        have bwa := hbw.trans (la.mono hzw)
        have hs1 : Calls Tryz.prog 74 #[.pointer (some ⟨w1.heap.size, 0, none⟩), .string ⟨#[59, 32]⟩] wa fun e w' => (e = .returned (.tuple #[.int .i64 2, .nilIface])) ∧ Lib.IsBuilder 113 5 w1.heap.size w1.heap.size (Lib.byteCells (acc ++ [59, 32])) w' ∧ Below w1.heap.size wa w' ∧ Lib.OthersKept 5 (some w1.heap.size) wa w' ∧ w1.heap.size ≤ w'.heap.size := wsC _ _ acc ⟨#[59, 32]⟩ wa hba (by omega) (by decide) (Nat.le_trans hzw la.size)
        have hwv : Hid (∀ W, Lib.IsBuilder 113 5 w1.heap.size w1.heap.size (Lib.byteCells (acc ++ [59, 32] ++ N.data.toList ++ [61])) W → w1.heap.size ≤ W.heap.size → Calls Tryz.prog 124 #[.pointer (some ⟨w1.heap.size, 0, none⟩), .string V] W fun e w' => e = .returned (.tuple #[]) ∧ Lib.IsBuilder 113 5 w1.heap.size w1.heap.size (Lib.byteCells (headC t (k + 1))) w' ∧ Below w1.heap.size W w' ∧ w1.heap.size ≤ w'.heap.size) := Lib.hid fun W hI hz => by
          have hx := cwritev_any w1.heap.size w1.heap.size _ f.2 W hI hz (by
            rw [hNd]
            simp only [List.length_append, List.length_cons, List.length_nil]
            omega) (by omega)
          rw [hV, show acc ++ [59, 32] ++ N.data.toList ++ [61] ++ valTextC f.2 = headC t (k + 1) by rw [hsn, hNd]; simp] at hx
          exact hx
        rw [hN] at y0
        rw [hV] at y1
        have hne : wr.heap.size ≠ w1.heap.size := by
          have h9 := H0
          intro e
          rcases H0 with h9 | h9
          · have := h9.lt; omega
          · have := h9.lt; omega
        obtain ⟨u0, u1, u2, u3⟩ := na.cells
        have Na := Lib.hid na
        have Hnl := Lib.hid (And.intro hhl (And.intro hNs hNd))
        have bz := bwa.size
        clear hN hV hNs hNd m1 m2 hsn hacc hf hib H0 hhl la na hba hbw hil
        go_wp2_with fail
        refine hs1.mono ?_
        rintro e w6 ⟨rfl, q1, q2, q3, q4⟩
        have n6 : ParAt w6 wr.heap.size N V := q3 _ _ Na.out (by intro e; injection e with e; exact hne e) (fun x fz e => by cases e)
        obtain ⟨x0, x1, x2, x3⟩ := n6.cells
        have b6 := bwa.trans q2
        have hs2 := wsC _ _ _ N w6 q1 (by have := Hnl.out.1; simp only [List.length_append, List.length_cons, List.length_nil]; omega) (by have := Hnl.out.2.1; omega) q4
        have N6 := Lib.hid n6
        clear hs1 q1 q2 q3 q4 n6 u0 u1 u2 u3 Na bwa
        go_wp2_with fail
        refine hs2.mono ?_
        rintro e w7 ⟨rfl, q1, q2, q3, q4⟩
        have n7 : ParAt w7 wr.heap.size N V := q3 _ _ N6.out (by intro e; injection e with e; exact hne e) (fun x fz e => by cases e)
        have b7 := b6.trans q2
        have h61 := hb4.out w7 _ (by have := Hnl.out; rw [this.2.2]; have h9 := this.2.2; have h8 : N.data.toList.length = N.size := rfl; rw [h9] at h8; simp only [List.length_append, List.length_cons, List.length_nil]; omega) q1 q4
        have N7 := Lib.hid n7
        clear hs2 q1 q2 q3 q4 n7 x0 x1 x2 x3 N6 b6
        go_wp2_with fail
        refine h61.mono ?_
        rintro e w8 ⟨rfl, q1, q2, q3, q4⟩
        have n8 : ParAt w8 wr.heap.size N V := q3 _ _ N7.out (by intro e; injection e with e; exact hne e) (fun x fz e => by cases e)
        obtain ⟨x0, x1, x2, x3⟩ := n8.cells
        have b8 := b7.trans q2
        have hv8 := hwv.out w8 q1 q4
        clear h61 q1 q2 q3 q4 n8 hwv N7 b7
        go_wp2_with fail
        refine hv8.mono ?_
        rintro e w9 ⟨rfl, q1, q2, q4⟩
        have b9 := b8.trans q2
        have Q9 := Lib.hid q1
        clear hv8 q1 q2 b8 x0 x1 x2 x3
        go_wp2
        go_roundw
        case rel => exact ⟨k + 1, by omega, by go_num, Q9, b9, q4⟩
        case measure => simp [intOf]; omega
      · obtain rfl : k = n := by omega
        have H0 := hib.out
        have e9 : headC t k = textC t := by
          unfold headC textC
          rw [List.take_of_length_le (by rw [HX.out.2.2]; exact Nat.le_refl _)]
        rw [e9] at H0
        have hstr := Tryz.Builder_String_any w1.heap.size w1.heap.size (textC t) wr H0 hzw
        obtain ⟨T, hT⟩ : ∃ T, textQ (textC t) = T := ⟨_, rfl⟩
        have hstr2 : Calls Tryz.prog 76 #[.pointer (some ⟨w1.heap.size, 0, none⟩)] wr fun e w' => e = .returned (.string T) ∧ Below w1.heap.size wr w' := hstr.mono fun e w' ⟨h, hb⟩ => ⟨by rw [h, ← hT]; rfl, hb⟩
        have HR := Lib.hid (by rw [Hr.out, hT] : PV = .tuple #[.string T, .int .i64 0])
        clear hib H0 hstr hT Hr e9
        go_wp2_with fail
        refine hstr2.mono ?_
        rintro e w3 ⟨rfl, hw3⟩
        have b3 := (B0.out _ (hbw.trans hw3)).1
        clear hstr2 hw3 hbw
        go_wp2
        go_ret2
        exact ⟨by rw [HR.out]; rfl, b3⟩
end Go.Proofs.YtjikghndoklajaaGreatDoor
