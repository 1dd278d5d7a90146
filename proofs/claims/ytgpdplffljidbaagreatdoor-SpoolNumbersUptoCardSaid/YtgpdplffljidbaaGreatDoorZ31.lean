/-
  Texts of this proof, put together: SpD, PowT, DigT, S16K, SpE.
-/
import Derived.Test.YtgpdplffljidbaaGreatDoorZ11
import Derived.Test.YtgpdplffljidbaaGreatDoorZ03
import Derived.Test.YtgpdplffljidbaaGreatDoorZ01
import Derived.Below
import Derived.Test.YtgpdplffljidbaaGreatDoorRows
import Derived.Lib.ItoaNum
import Derived.Test.YtgpdplffljidbaaGreatDoorZ08
import Derived.Test.YtgpdplffljidbaaGreatDoorZ09
import Derived.Lib.AppendIntMem
namespace Go.Proofs.YtgpdplffljidbaaGreatDoor
open Go.RowKit

theorem right_ofS {x : ItemS} (h : rightS x = true) : x.fr.length ≤ 255 ∧ x.to.length ≤ 255 ∧ x.tx.length ≤ 16384 ∧ rightT x.b x.t x.d = true := by
  unfold rightS at h
  simp only [Bool.and_eq_true, decide_eq_true_eq] at h
  exact h
def accP (x : ItemS) (i : Nat) : List UInt8 := ([x.fr, x.to, x.tx].take i).flatMap partS
def accN (l : List Nat) (i : Nat) : List UInt8 := (l.take i).flatMap (beS 8)
theorem accp_step (x : ItemS) (i : Nat) (h : i < 3) : accP x (i + 1) = accP x i ++ (beS 2 ([x.fr, x.to, x.tx][i]'h).length ++ [x.fr, x.to, x.tx][i]'h) := by
  unfold accP
  rw [List.take_succ_eq_append_getElem h, List.flatMap_append, List.flatMap_cons, List.flatMap_nil, List.append_nil]
  rfl
theorem accn_step (l : List Nat) (i : Nat) (h : i < l.length) : accN l (i + 1) = accN l i ++ beS 8 l[i] := by
  unfold accN
  rw [List.take_succ_eq_append_getElem h, List.flatMap_append, List.flatMap_cons, List.flatMap_nil, List.append_nil]
theorem accn_len (l : List Nat) (i : Nat) (h : i ≤ l.length) : (accN l i).length = 8 * i := by
  unfold accN
  have : ∀ k : List Nat, (k.flatMap (beS 8)).length = 8 * k.length := fun k => by
    induction k with
    | nil => rfl
    | cons a k ih =>
      rw [List.flatMap_cons, List.length_append, ih, be_lenS, List.length_cons]
      omega
  rw [this, List.length_take]
  omega

structure PrL (w w1 : World) (N : Nat) (cs : Array Value) (T : TypeId) (wr : World) (v : Value) (acc : List UInt8) : Prop where
  own : OwnB9 (w.heap.size + 1) wr v acc
  held : wr.heap[N]? = some (.cells cs T (0, 0))
  low : Below (w.heap.size + 1) w1 wr
section
variable {w w1 wr w' : World} {N : Nat} {cs : Array Value} {T : TypeId} {v v' : Value} {acc acc' : List UInt8}
theorem PrL.ne (h : PrL w w1 N cs T wr v acc) (hT : T ≠ 5) : ¬ v.ownBlock = some N := fun e => by
  obtain ⟨_, cur, hcr⟩ := row_block h.own e
  rw [h.held] at hcr
  cases hcr
  exact hT rfl
theorem PrL.turned (h : PrL w w1 N cs T wr v acc) (hT : T ≠ 5) (hw1 : w.heap.size + 1 ≤ wr.heap.size) (ho : OwnB9 (w.heap.size + 1) w' v' acc') (t : Turned (blkOf v) wr w') : PrL w w1 N cs T w' v' acc' :=
  ⟨ho, t.heap h.held (h.ne hT), h.low.trans (t.below hw1 fun _b e => (row_block h.own e).1)⟩
theorem PrL.grown (h : PrL w w1 N cs T wr v acc) (hT : T ≠ 5) (hw1 : w.heap.size + 1 ≤ wr.heap.size) (ho : OwnB9 (w.heap.size + 1) w' v' acc') (hg : wr.grownBy w' v.ownBlock) : PrL w w1 N cs T w' v' acc' :=
  h.turned hT hw1 ho (Turned.of_grown hg fun _ hk => .inl hk)
end

set_option maxRecDepth 100000 in
set_option maxHeartbeats 4000000 in
theorem sprint_any (x : ItemS) (hr : rightS x = true) (w : World) : Calls Tryz.prog 25 #[itemV x] w fun e w' => e = .returned (.tuple #[.string (textQ (textS x)), .int .i64 0]) ∧ Below w.heap.size w w' := by
  obtain ⟨r1, r2, r3, r4⟩ := right_ofS hr
  obtain ⟨⟨b0, b1⟩, ⟨d0, d1⟩, _, t0, t1⟩ := right_of r4
  have hcall := sright_any x
  rw [hr] at hcall
  unfold itemV at hcall ⊢
  obtain ⟨bn, hbn⟩ : ∃ bn : Nat, x.b = (bn : Int) := ⟨x.b.toNat, by omega⟩
  obtain ⟨tn, htn⟩ : ∃ tn : Nat, x.t = (tn : Int) := ⟨x.t.toNat, by omega⟩
  obtain ⟨dn, hdn⟩ : ∃ dn : Nat, x.d = (dn : Int) := ⟨x.d.toNat, by omega⟩
  have hlim : bn < 2 ^ 62 ∧ tn < 2 ^ 62 ∧ dn < 2 ^ 62 := ⟨by omega, by omega, by omega⟩
  have htext : textS x = accP x 3 ++ accN [bn, tn, dn] 3 := by
    unfold textS accP accN turnS
    rw [hbn, htn, hdn]
    simp
  have hP0 : (accP x 3).length ≤ 20000 := by
    have h := text_lenS x
    rw [htext, List.length_append] at h
    omega
  have hPl : ∀ i, i ≤ 3 → (accP x i).length ≤ 20000 := fun i hi => by
    refine Nat.le_trans ?_ hP0
    have h : (accP x 3) = accP x i ++ (([x.fr, x.to, x.tx].drop i).flatMap partS) := by
      unfold accP
      rw [← List.flatMap_append, List.take_append_drop]
      rfl
    rw [h, List.length_append]
    omega
  have hstep := accp_step x
  obtain ⟨R, hR⟩ : ∃ R, textQ (textS x) = R := ⟨_, rfl⟩
  rw [hR]
  obtain ⟨i0, hi0, hz00, hz10, hz20⟩ := info_parts infoB4
  obtain ⟨F, hF⟩ : ∃ F, textQ x.fr = F := ⟨_, rfl⟩
  obtain ⟨O, hO⟩ : ∃ F, textQ x.to = F := ⟨_, rfl⟩
  obtain ⟨X, hX⟩ : ∃ F, textQ x.tx = F := ⟨_, rfl⟩
  rw [hF, hO, hX, hbn, htn, hdn] at hcall ⊢
  obtain ⟨w1, hw1⟩ : ∃ w1, w.alloc (.cells #[.int .i64 x.id, .string F, .string O, .string X, .int .i64 (bn : Int), .int .i64 (tn : Int), .int .i64 (dn : Int)] 44) = w1 := ⟨_, rfl⟩
  have b1 : Below w.heap.size w w1 := by rw [← hw1]; exact (Below.refl _ _).alloc (Nat.le_refl _) _
  have p1 : ItAt w1 w.heap.size x.id F O X bn tn dn := by rw [← hw1]; exact it_new w _ _ _ _ _ _ _
  obtain ⟨y0, y1, y2, y3, y4, y5, y6, _⟩ := p1.cells
  have hc1 := hcall w1
  have sF : F.size ≤ 255 := by rw [← hF]; exact r1
  have sO : O.size ≤ 255 := by rw [← hO]; exact r2
  have sX : X.size ≤ 16384 := by rw [← hX]; exact r3
  have K1 := Lib.hid (And.intro b1 p1)
  have HR := Lib.hid (And.intro hR (And.intro htext (And.intro hPl (And.intro hstep (And.intro hlim (And.intro hF (And.intro hO hX)))))))
  clear hcall r1 r2 r3 r4 b0 d0 d1 t0 t1 hbn htn hdn hlim htext hP0 hPl hstep hR hF hO hX p1 b1 hr
  go_enter Tryz.func25, Tryz.ntmps25
  go_wp2_with fail
  refine hc1.mono ?_
  rintro e w2 ⟨rfl, hb⟩
  have K2 := Lib.hid (And.intro (K1.out.1.trans (hb.mono K1.out.1.size)) (And.intro (K1.out.2.below hb) (show Below (w.heap.size + 1) w1 w2 from hb.mono (by have := K1.out.2.lt; omega))))
  obtain ⟨w3, hmk, hown3, hgrow3⟩ := run_make_own (P := Tryz.prog) w2 (w.heap.size + 1) 65 5 i0 (.int .u8 0) 1 Tryz.underlying65 hi0 hz00 hz10 .i64 .i64 (30 + F.size + O.size + X.size) (by rw [hz20]; omega) (by unfold maxLen; omega) K2.out.2.1.lt
  push_cast at hmk
  have b3 : Below w2.heap.size w2 w3 := (Below.refl _ _).grown hgrow3 (Nat.le_refl _) fun k hk => by cases hk
  have K3 := Lib.hid (And.intro (K2.out.1.trans (b3.mono K2.out.1.size)) (And.intro (K2.out.2.1.below b3) (And.intro hown3 (show Below (w.heap.size + 1) w2 w3 from b3.mono (by have := K2.out.2.1.lt; omega)))))
  clear hc1 hb y0 y1 y2 y3 y4 y5 y6 hgrow3 b3 hown3
  obtain ⟨y0, y1, y2, y3, y4, y5, y6, _⟩ := K2.out.2.1.cells
  obtain ⟨z0, z1, z2, z3, z4, z5, z6, _⟩ := K3.out.2.1.cells
  obtain ⟨w4, hw4⟩ : ∃ w4, w3.alloc (.cells #[.string F, .string O, .string X] 9) = w4 := ⟨_, rfl⟩
  have b4 : Below w3.heap.size w3 w4 := by rw [← hw4]; exact (Below.refl _ _).alloc (Nat.le_refl _) _
  have h4 : w4.heap[w3.heap.size]? = some (.cells #[.string F, .string O, .string X] 9 (0, 0)) := by rw [← hw4]; exact heap_alloc_new w3 _
  have L4 : Hid (PrL w w1 w3.heap.size #[.string F, .string O, .string X] 9 w4 (.slice (some ⟨w2.heap.size, 0, none⟩) 0 (30 + F.size + O.size + X.size)) (accP x 0)) := Lib.hid ⟨(Turned.of_below (S := fun _ => False) b4 (Nat.le_refl _)).row K3.out.2.2.1 (fun _ _ h => h), h4, (K2.out.2.2.trans (K3.out.2.2.2.trans (b4.mono (by have := K3.out.2.2.2.size; have := K2.out.2.1.lt; omega))))⟩
  clear K3 b4 h4
  go_wp2
  clear z0 z1 z2 z3 z4 z5 z6 hmk y0 y1 y2 y3 y4 y5 y6
  go_loopw [4, 33] (fun v iv wr => ∃ i : Nat, i ≤ 3 ∧ iv = .int .i64 i ∧ Hid (PrL w w1 w3.heap.size #[.string F, .string O, .string X] 9 wr v (accP x i))) (fun _ iv _ => 3 - (intOf iv).toNat)
  case atStart => exact ⟨0, by omega, rfl, L4⟩
  case round =>
    clear L4
    obtain ⟨i, hi, rfl, hk⟩ := hrel
    have hwz : w.heap.size + 1 ≤ wr.heap.size := by have := hk.out.low.size; have := K1.out.2.lt; omega
    by_cases hlt : i < 3
    · obtain ⟨_, _, hPl, hstep, _, hF, hO, hX⟩ := HR.out
      obtain ⟨T, hT, hTs, hTe⟩ : ∃ T : ByteArray, wr.cell? ⟨w3.heap.size, i, none⟩ = some (.string T) ∧ T.size ≤ 16384 ∧ T.data.toList = [x.fr, x.to, x.tx][i]'hlt := by
        match i, hlt with
        | 0, _ => exact ⟨F, Lib.cell_of_heap hk.out.held 0, by omega, by rw [← hF]; rfl⟩
        | 1, _ => exact ⟨O, Lib.cell_of_heap hk.out.held 1, by omega, by rw [← hO]; rfl⟩
        | 2, _ => exact ⟨X, Lib.cell_of_heap hk.out.held 2, by omega, by rw [← hX]; rfl⟩
      have hst := hstep i hlt
      rw [← hTe] at hst
      have hl1 := hPl i hi
      obtain ⟨acc, hacc⟩ : ∃ acc, accP x i = acc := ⟨_, rfl⟩
      rw [hacc] at hk hst hl1
      have hap := sappn_any (w.heap.size + 1) u4 acc T.data.toList.length 2 (by omega) (by have e : T.data.toList.length = T.size := rfl; omega) wr hk.out.own hwz (by omega)
      rw [show ((T.data.toList.length : Nat) : Int) = (T.size : Int) from rfl, show ((2 : Nat) : Int) = 2 from rfl, bytes_beS] at hap
      have Hst := Lib.hid hst
      clear hPl hstep hF hO hX hTe hst hacc
      go_wp2_with fail
      refine hap.mono ?_
      rintro e w5 ⟨v5, rfl, hown5, ht5, -⟩
      have L5 := Lib.hid (hk.out.turned (by decide) hwz hown5 ht5)
      have hw5z : w.heap.size + 1 ≤ w5.heap.size := Nat.le_trans hwz ht5.size
      have hl5 : (acc ++ beS 2 T.data.toList.length).length ≤ 30000 := by rw [List.length_append, be_lenS]; omega
      clear hap hown5 ht5 hk
      go_wp2_with (at_builtin; refine Lib.wpList_append_own_string _ rfl _ _ 65 9 rfl (w.heap.size + 1) 5 i0 Tryz.underlying65 Tryz.underlying9 hi0 hz00 hz10 hz20 _ _ _ rfl L5.out.own T rfl ?sx ?tx ?ux ?_)
      case sx => unfold maxLen; omega
      case tx => omega
      case ux => exact hw5z
      intro v6 w6 hown6 hgrow6 _
      have hown : OwnB9 (w.heap.size + 1) w6 v6 (accP x (i + 1)) := by
        rw [Hst.out]
        unfold OwnB9
        rw [← List.append_assoc, Lib.byteCells_append, List.length_append, ← Lib.strCells_eq, List.length_append]
        exact hown6
      have L6 := Lib.hid (L5.out.grown (by decide) hw5z hown hgrow6)
      clear hown6 hgrow6 hown L5
      go_wp2
      go_roundw
      case rel => exact ⟨i + 1, by omega, by go_num, L6⟩
      case measure => simp [intOf]; omega
    · obtain rfl : i = 3 := by omega
      have p2 : ItAt wr w.heap.size x.id F O X bn tn dn := (hk.out.low.block _ (by omega)).trans K1.out.2
      obtain ⟨z0, z1, z2, z3, z4, z5, z6, _⟩ := p2.cells
      obtain ⟨w5, hw5⟩ : ∃ w5, wr.alloc (.cells #[.int .i64 (bn : Int), .int .i64 (tn : Int), .int .i64 (dn : Int)] 3) = w5 := ⟨_, rfl⟩
      have b5 : Below wr.heap.size wr w5 := by rw [← hw5]; exact (Below.refl _ _).alloc (Nat.le_refl _) _
      have h5 : w5.heap[wr.heap.size]? = some (.cells #[.int .i64 (bn : Int), .int .i64 (tn : Int), .int .i64 (dn : Int)] 3 (0, 0)) := by rw [← hw5]; exact heap_alloc_new wr _
      have L5 : Hid (PrL w w1 wr.heap.size #[.int .i64 (bn : Int), .int .i64 (tn : Int), .int .i64 (dn : Int)] 3 w5 u4 (accP x 3 ++ accN [bn, tn, dn] 0)) := Lib.hid ⟨by
        rw [show accN [bn, tn, dn] 0 = [] from rfl, List.append_nil]
        exact (Turned.of_below (S := fun _ => False) b5 (Nat.le_refl _)).row hk.out.own (fun _ _ h => h), h5, hk.out.low.trans (b5.mono hwz)⟩
      clear hk b5 h5 p2
      go_wp2
      generalize wr.heap.size = M at L5 ⊢
      clear z0 z1 z2 z3 z4 z5 z6 hwz
      go_loopw [4, 56] (fun v iv wq => ∃ i : Nat, i ≤ 3 ∧ iv = .int .i64 i ∧ Hid (PrL w w1 M #[.int .i64 (bn : Int), .int .i64 (tn : Int), .int .i64 (dn : Int)] 3 wq v (accP x 3 ++ accN [bn, tn, dn] i))) (fun _ iv _ => 3 - (intOf iv).toNat)
      case atStart => exact ⟨0, by omega, rfl, L5⟩
      case round =>
        clear L5
        obtain ⟨i, hi, rfl, hk⟩ := hrel
        have hwz : w.heap.size + 1 ≤ wr.heap.size := by have := hk.out.low.size; have := K1.out.2.lt; omega
        obtain ⟨hR, htext, hPl, _, hlim, _⟩ := HR.out
        have hl1 : (accP x 3 ++ accN [bn, tn, dn] i).length ≤ 30000 := by
          have := hPl 3 (by omega)
          rw [List.length_append, accn_len _ _ hi]
          omega
        by_cases hlt : i < 3
        · obtain ⟨n, hn, hnl, hne⟩ : ∃ n : Nat, wr.cell? ⟨M, i, none⟩ = some (.int .i64 (n : Int)) ∧ n < 2 ^ 62 ∧ [bn, tn, dn][i]'hlt = n := by
            match i, hlt with
            | 0, _ => exact ⟨bn, Lib.cell_of_heap hk.out.held 0, hlim.1, rfl⟩
            | 1, _ => exact ⟨tn, Lib.cell_of_heap hk.out.held 1, hlim.2.1, rfl⟩
            | 2, _ => exact ⟨dn, Lib.cell_of_heap hk.out.held 2, hlim.2.2, rfl⟩
          have hst := accn_step [bn, tn, dn] i hlt
          rw [hne] at hst
          have hap := sappn_any (w.heap.size + 1) u4 _ n 8 (by omega) hnl wr hk.out.own hwz (by omega)
          rw [show ((8 : Nat) : Int) = 8 from rfl, bytes_beS, List.append_assoc, ← hst] at hap
          clear hR htext hPl hlim hst hne hnl
          go_wp2_with fail
          refine hap.mono ?_
          rintro e w5 ⟨v5, rfl, hown5, ht5, -⟩
          have L6 := Lib.hid (hk.out.turned (by decide) hwz hown5 ht5)
          clear hap hown5 ht5 hk
          go_wp2
          refine ⟨⟨v5, .int .i64 (n : Int), .int .i64 ((i : Int) + 1), _, _, _, _, _, _, _, ⟨i + 1, by omega, by go_num, L6⟩, rfl⟩, ?_⟩
          show 3 - (intOf (.int .i64 ((i : Int) + 1))).toNat < 3 - (intOf (.int .i64 (i : Int))).toNat
          simp [intOf]
          omega
        · obtain rfl : i = 3 := by omega
          have hcv := conv_own4 hk.out.own
          rw [← htext] at hcv
          rw [show (⟨(textS x).toArray⟩ : ByteArray) = R from hR] at hcv
          have Fin := Lib.hid (K1.out.1.trans (hk.out.low.mono (by omega)))
          clear hk hR htext hPl hlim hl1
          go_wp2
          go_ret2
          all_goals first | exact ⟨rfl, Fin.out⟩ | exact Fin.out
end Go.Proofs.YtgpdplffljidbaaGreatDoor
namespace Go.Proofs.YtgpdplffljidbaaGreatDoor
open Go.RowKit

abbrev PowIs (w : World) : Prop := Lib.TabIs Tryz.prog w "internal/strconv.uint64pow10" .u64 Lib.pow10Tab
theorem pow_global : ∃ g, Tryz.prog.globalNamed "internal/strconv.uint64pow10" = some g :=
  Option.isSome_iff_exists.1 (show (Tryz.prog.globalNamed "internal/strconv.uint64pow10").isSome = true by kernel_rfl)
theorem pow_below {w w' : World} (h : PowIs w) (hb : Below w.heap.size w w') : PowIs w' := by
  obtain ⟨g, hg⟩ := pow_global
  unfold PowIs Lib.TabIs World.var? at h ⊢
  rw [hg] at h ⊢
  simp only [Option.bind_some] at h ⊢
  have hlt : g < w.heap.size := by
    rcases Nat.lt_or_ge g w.heap.size with h' | h'
    · exact h'
    · rw [Array.getElem?_eq_none h'] at h
      cases h
  rw [hb.block g hlt]
  exact h
end Go.Proofs.YtgpdplffljidbaaGreatDoor
namespace Go.Proofs.YtgpdplffljidbaaGreatDoor

theorem digits_short {u k : Nat} (h : u < 10 ^ (k + 1)) : Lib.nDigits u ≤ k + 1 := by
  induction k generalizing u with
  | zero => rw [Lib.nDigits_small (by simpa using h)]; exact Nat.le_refl _
  | succ k ih =>
    by_cases hu : u < 10
    · rw [Lib.nDigits_small hu]
      omega
    · rw [Lib.nDigits_big hu]
      have := ih (u := u / 10) (by rw [Nat.pow_succ] at h; omega)
      omega
end Go.Proofs.YtgpdplffljidbaaGreatDoor
namespace Go.Proofs.YtgpdplffljidbaaGreatDoor

def keyS (n : Nat) : List UInt8 := [113, 47] ++ (List.replicate (8 - Lib.nDigits n) 48 ++ Lib.decDigits n)
theorem digits_8 {n : Nat} (h : n ≤ 99999999) : Lib.nDigits n ≤ 8 := digits_short (k := 7) (by
  have : 10 ^ (7 + 1) = 100000000 := by decide
  omega)
theorem key_len {n : Nat} (h : n ≤ 99999999) : (keyS n).length = 10 := by
  unfold keyS
  have := digits_8 h
  simp [Lib.decDigits_length]
  omega
def fixS : Nat → Nat → List UInt8
  | 0, _ => []
  | k + 1, n => fixS k (n / 10) ++ [UInt8.ofNat (48 + n % 10)]
theorem fix_len : ∀ k n, (fixS k n).length = k
  | 0, _ => rfl
  | k + 1, n => by
    unfold fixS
    rw [List.length_append, fix_len k]
    rfl
theorem fix_zero : ∀ k, fixS k 0 = List.replicate k 48
  | 0 => rfl
  | k + 1 => by
    unfold fixS
    rw [show 0 / 10 = 0 from rfl, fix_zero k, List.replicate_succ']
    rfl
theorem fix_dec : ∀ k n, Lib.nDigits n ≤ k → List.replicate (k - Lib.nDigits n) 48 ++ Lib.decDigits n = fixS k n
  | 0, n, h => by
    have := Lib.nDigits_pos n
    omega
  | k + 1, n, h => by
    unfold fixS
    by_cases h1 : n < 10
    · rw [Lib.nDigits_small h1, Lib.decDigits, dif_pos h1, show n / 10 = 0 by omega, show n % 10 = n by omega, fix_zero]
      rfl
    · rw [Lib.nDigits_big h1] at h ⊢
      have e : Lib.decDigits n = Lib.decDigits (n / 10) ++ [UInt8.ofNat (48 + n % 10)] := by
        conv =>
          lhs
          rw [Lib.decDigits, dif_neg h1]
      rw [e, ← List.append_assoc, show k + 1 - (Lib.nDigits (n / 10) + 1) = k - Lib.nDigits (n / 10) by omega, fix_dec k (n / 10) (by omega)]
theorem less_app : ∀ {a b : KeyP} (x y : KeyP), a.length = b.length → lessP a b = true → lessP (a ++ x) (b ++ y) = true
  | [], [], _, _, _, h => by cases h
  | a :: s, b :: t, x, y, hl, h => by
    replace h : (decide (a < b) || (a == b && Op.bytesLess s t)) = true := h
    show (decide (a < b) || (a == b && Op.bytesLess (s ++ x) (t ++ y))) = true
    simp only [Bool.or_eq_true, decide_eq_true_eq, Bool.and_eq_true, beq_iff_eq] at h ⊢
    rcases h with h | ⟨rfl, h⟩
    · exact .inl h
    · exact .inr ⟨rfl, less_app x y (by simpa using hl) h⟩
theorem less_pre : ∀ (a x y : KeyP), lessP (a ++ x) (a ++ y) = lessP x y
  | [], _, _ => rfl
  | c :: a, x, y => by
    show (decide (c < c) || (c == c && Op.bytesLess (a ++ x) (a ++ y))) = _
    rw [show Op.bytesLess (a ++ x) (a ++ y) = lessP x y from less_pre a x y]
    simp
theorem fix_less : ∀ (k n m : Nat), n < m → m < 10 ^ k → lessP (fixS k n) (fixS k m) = true
  | 0, n, m, h, hm => by
    have : m < 1 := hm
    omega
  | k + 1, n, m, h, hm => by
    unfold fixS
    by_cases h1 : n / 10 < m / 10
    · exact less_app _ _ (by rw [fix_len, fix_len]) (fix_less k _ _ h1 (by rw [Nat.pow_succ] at hm; omega))
    · have e : n / 10 = m / 10 := by omega
      rw [e, less_pre]
      show (decide (UInt8.ofNat (48 + n % 10) < UInt8.ofNat (48 + m % 10)) || _) = true
      rw [decide_eq_true (by rw [UInt8.lt_iff_toNat_lt, UInt8.toNat_ofNat', UInt8.toNat_ofNat']; omega)]
      rfl
theorem key_fix {n : Nat} (h : n ≤ 99999999) : keyS n = [113, 47] ++ fixS 8 n := by
  unfold keyS
  rw [fix_dec 8 n (digits_8 h)]
theorem key_less {n m : Nat} (h : n < m) (hm : m ≤ 99999999) : lessP (keyS n) (keyS m) = true := by
  rw [key_fix (by omega), key_fix hm, less_pre]
  exact fix_less 8 n m h (by
    have : 10 ^ 8 = 100000000 := by decide
    omega)
theorem key_inj {n m : Nat} (hn : n ≤ 99999999) (hm : m ≤ 99999999) (e : keyS n = keyS m) : n = m := by
  rcases Nat.lt_trichotomy n m with h | h | h
  · have := key_less h hm
    rw [e, less_irrefl] at this
    cases this
  · exact h
  · have := key_less h hn
    rw [e, less_irrefl] at this
    cases this
theorem keys_ext {l l' : List KeyP} (h : l.Pairwise fun a b => lessP a b = true) (h' : l'.Pairwise fun a b => lessP a b = true) (he : ∀ k, k ∈ l ↔ k ∈ l') : l = l' := by
  have hs : ∀ l : List KeyP, (l.Pairwise fun a b => lessP a b = true) → SortedP (l.map fun k => (k, [])) := fun l h => by
    unfold SortedP
    rw [List.pairwise_map]
    exact h
  have hf : ∀ (l : List KeyP) (k : KeyP), findP (l.map fun k => (k, [])) k = if k ∈ l then some [] else none := fun l k => by
    induction l with
    | nil => rfl
    | cons a l ih =>
      rw [List.map_cons, find_cons, ih]
      by_cases e : a = k
      · subst e
        rw [if_pos rfl, if_pos (List.mem_cons_self ..)]
      · rw [if_neg e]
        by_cases hk : k ∈ l
        · rw [if_pos hk, if_pos (List.mem_cons_of_mem _ hk)]
        · rw [if_neg hk, if_neg (fun h => (List.mem_cons.1 h).elim (fun h => e h.symm) hk)]
  have e := sorted_ext (hs l h) (hs l' h') fun k => by
    rw [hf, hf]
    by_cases hk : k ∈ l
    · rw [if_pos hk, if_pos ((he k).1 hk)]
    · rw [if_neg hk, if_neg (fun h => hk ((he k).2 h))]
  have e2 := congrArg (List.map Prod.fst) e
  rw [List.map_map, List.map_map, show (Prod.fst ∘ fun (k : KeyP) => ((k, []) : PairP)) = id from rfl, List.map_id, List.map_id] at e2
  exact e2
structure QueueB (ps : List PairP) (l : List ItemS) (last : Nat) (lt : Option (List UInt8)) : Prop where
  sorted : SortedP ps
  rise : l.Pairwise fun x y => x.id < y.id
  ok : ∀ x ∈ l, rightS x = true ∧ ∃ n : Nat, x.id = (n : Int) ∧ 1 ≤ n ∧ n ≤ last
  few : last ≤ 99999999
  item : ∀ x ∈ l, findP ps (keyS x.id.toNat) = some (textS x)
  none : ∀ n : Nat, n ≤ 99999999 → (∀ x ∈ l, x.id ≠ (n : Int)) → findP ps (keyS n) = none
  keys : ∀ p ∈ ps, p.1.take 2 = [113, 47] → ∃ x ∈ l, p.1 = keyS x.id.toNat
  last : findP ps [113] = lt
abbrev QueueP (ps : List PairP) (l : List ItemS) (last : Nat) : Prop := QueueB ps l last (if last = 0 then none else some (Lib.decDigits last))
theorem queue_nil : QueueP [] [] 0 := ⟨List.Pairwise.nil, List.Pairwise.nil, fun x h => (by cases h), by decide, fun x h => (by cases h), fun _ _ _ => rfl, fun p h => (by cases h), rfl⟩
theorem find_memP {ps : List PairP} {k v : List UInt8} (h : findP ps k = some v) : ∃ p ∈ ps, p.1 = k := by
  unfold findP at h
  rw [Option.map_eq_some_iff] at h
  obtain ⟨p, hp, _⟩ := h
  exact ⟨p, List.mem_of_find?_eq_some hp, by simpa using List.find?_some hp⟩
theorem queue_keys {ps : List PairP} {l : List ItemS} {last : Nat} {lt : Option (List UInt8)} (h : QueueB ps l last lt) : keysP ps [113, 47] = l.map fun x => keyS x.id.toNat := by
  refine keys_ext ?_ ?_ fun k => ?_
  · unfold keysP
    refine List.Pairwise.filter _ ?_
    rw [List.pairwise_map]
    exact h.sorted
  · rw [List.pairwise_map]
    have hp := h.rise
    refine List.Pairwise.imp_of_mem ?_ hp
    intro x y hx hy hxy
    obtain ⟨_, n, e1, _, _⟩ := h.ok x hx
    obtain ⟨_, m, e2, _, m2⟩ := h.ok y hy
    have := h.few
    rw [e1, e2, Int.toNat_natCast, Int.toNat_natCast]
    exact key_less (by omega) (by omega)
  · unfold keysP
    rw [List.mem_filter, List.mem_map, List.mem_map]
    constructor
    · rintro ⟨⟨p, hp, rfl⟩, h2⟩
      obtain ⟨x, hx, e⟩ := h.keys p hp (by simpa using h2)
      exact ⟨x, hx, e.symm⟩
    · rintro ⟨x, hx, rfl⟩
      obtain ⟨p, hp, e⟩ := find_memP (h.item x hx)
      refine ⟨⟨p, hp, e⟩, ?_⟩
      unfold keyS
      rfl
end Go.Proofs.YtgpdplffljidbaaGreatDoor
namespace Go.Proofs.YtgpdplffljidbaaGreatDoor
open Go.RowKit

set_option maxRecDepth 100000 in
set_option maxHeartbeats 1000000 in
theorem skey_any (n : Nat) (w : World) (h : n ≤ 99999999) (ht : PowIs w) : Calls Tryz.prog 35 #[.int .i64 (n : Int)] w fun e w' => e = .returned (.string (textQ (keyS n))) ∧ Below w.heap.size w w' := by
  have hi := Tryz.strconv_Itoa (n : Int) (by omega) (by omega) w ht
  have hd := digits_8 h
  have hrep := fun W => Tryz.strings_Repeat ⟨#[48]⟩ (8 - Lib.nDigits n) W (by omega) (by show 1 * (8 - Lib.nDigits n) ≤ _; omega)
  obtain ⟨T, hT⟩ : ∃ T : ByteArray, (⟨(Lib.itoa (n : Int)).toArray⟩ : ByteArray) = T := ⟨_, rfl⟩
  have hTe : Lib.itoa (n : Int) = Lib.decDigits n := by
    unfold Lib.itoa
    rw [if_neg (by omega), Int.toNat_natCast]
  have hTs : T.size = Lib.nDigits n := by
    rw [← hT]
    show (Lib.itoa (n : Int)).length = _
    rw [hTe, Lib.decDigits_length]
  have hrl : ∀ c : Nat, Lib.repeatL (⟨#[48]⟩ : ByteArray).data.toList c = List.replicate c 48 := fun c => by
    induction c with
    | zero => rfl
    | succ c ih =>
      show [48] ++ Lib.repeatL _ c = _
      rw [ih]
      rfl
  obtain ⟨Z, hZ⟩ : ∃ Z : ByteArray, (⟨(Lib.repeatL (⟨#[48]⟩ : ByteArray).data.toList (8 - Lib.nDigits n)).toArray⟩ : ByteArray) = Z := ⟨_, rfl⟩
  have hsum : textQ (keyS n) = (⟨#[113, 47]⟩ : ByteArray) ++ Z ++ T := by
    rw [← hZ, ← hT]
    apply ByteArray.ext
    rw [ByteArray.data_append, ByteArray.data_append, hrl, hTe]
    unfold textQ keyS
    simp
  rw [hZ] at hrep
  rw [hT] at hi
  replace hi : Calls Tryz.prog 33 #[.int .i64 (n : Int)] w fun e w' => e = .returned (.string T) ∧ Below w.heap.size w w' := hi.mono fun e w' ⟨h1, q, os, h2⟩ => ⟨h1, by rw [h2]; exact Lib.below_grow w.heap.size w (Nat.le_refl _) q os⟩
  obtain ⟨k, hk⟩ : ∃ k, 8 - Lib.nDigits n = k := ⟨_, rfl⟩
  rw [hk] at hrep
  have hkk : (8 : Int) - (T.size : Int) = (k : Int) := by omega
  have hmx : max (8 - (T.size : Int)) 0 = (k : Int) := by omega
  obtain ⟨R, hR⟩ : ∃ R, textQ (keyS n) = R := ⟨_, rfl⟩
  rw [hR] at hsum ⊢
  have hZs : Z.size ≤ 8 := by
    rw [← hZ, hrl]
    show (List.replicate _ (48 : UInt8)).length ≤ 8
    rw [List.length_replicate]
    omega
  have HS := Lib.hid hsum
  have Hrep := Lib.hid hrep
  have hT8 : T.size ≤ 8 := by omega
  clear hT hTe hTs hrl hZ hrep hd hk hR hsum ht
  go_enter Tryz.func35, Tryz.ntmps35
  go_wp2_with fail
  refine hi.mono ?_
  rintro e w1 ⟨rfl, hb⟩
  have B1 := Lib.hid hb
  have hr1 := Hrep.out w1
  clear hi hb
  go_wp2_with fail
  refine hr1.mono ?_
  rintro e w2 ⟨rfl, hb⟩
  have Fin := Lib.hid (B1.out.trans (hb.mono B1.out.size))
  clear hr1 hb
  go_wp2
  go_ret
  exact ⟨by rw [HS.out]; rfl, Fin.out⟩
def chV (k v : List UInt8) (g : Bool) : Value := .agg #[.string (textQ k), .string (textQ v), .bool g]
set_option maxRecDepth 100000 in
set_option maxHeartbeats 1000000 in
theorem sdrop_any (n : Nat) (w : World) (h : n ≤ 99999999) (ht : PowIs w) : Calls Tryz.prog 14 #[.int .i64 (n : Int)] w fun e w' => e = .returned (chV (keyS n) [] true) ∧ Below w.heap.size w w' := by
  obtain ⟨w1, hw1⟩ : ∃ w1, w.alloc (.cells #[.string ⟨#[]⟩, .string ⟨#[]⟩, .bool false] 50) = w1 := ⟨_, rfl⟩
  have b1 : Below w.heap.size w w1 := by rw [← hw1]; exact (Below.refl _ _).alloc (Nat.le_refl _) _
  have h1 : w1.heap[w.heap.size]? = some (.cells #[.string ⟨#[]⟩, .string ⟨#[]⟩, .bool false] 50 (0, 0)) := by rw [← hw1]; exact heap_alloc_new w _
  have hk := skey_any n w1 h (pow_below ht b1)
  have hlt : w.heap.size < w1.heap.size := (Array.getElem?_eq_some_iff.1 h1).1
  unfold chV
  obtain ⟨K, hK⟩ : ∃ K, textQ (keyS n) = K := ⟨_, rfl⟩
  rw [hK] at hk ⊢
  rw [show textQ [] = (⟨#[]⟩ : ByteArray) from rfl]
  have B1 := Lib.hid (And.intro b1 (And.intro h1 hlt))
  clear hK b1 h1 ht h hlt
  go_enter Tryz.func14, Tryz.ntmps14
  go_wp2_with fail
  refine hk.mono ?_
  rintro e w2 ⟨rfl, hb⟩
  have h2 := (hb.block _ B1.out.2.2).trans B1.out.2.1
  have c0 := Lib.cell_of_heap h2 0
  have c1 := Lib.cell_of_heap h2 1
  have c2 := Lib.cell_of_heap h2 2
  have f0 := Lib.frozen_of_heap h2 0
  have f1 := Lib.frozen_of_heap h2 1
  have f2 := Lib.frozen_of_heap h2 2
  have h3 := heap_setCell_same w2 w.heap.size 0 _ _ (.string K) h2
  have h4 := heap_setCell_same _ w.heap.size 1 _ _ (.string ⟨#[]⟩) h3
  have h5 := heap_setCell_same _ w.heap.size 2 _ _ (.bool true) h4
  have e0 := Lib.cell_of_heap h5 0
  have e1 := Lib.cell_of_heap h5 1
  have e2 := Lib.cell_of_heap h5 2
  have Fin := Lib.hid ((((B1.out.1.trans (hb.mono B1.out.1.size)).setCell (p := ⟨w.heap.size, 0, none⟩) (Nat.le_refl _) (.string K)).setCell (p := ⟨w.heap.size, 1, none⟩) (Nat.le_refl _) (.string ⟨#[]⟩)).setCell (p := ⟨w.heap.size, 2, none⟩) (Nat.le_refl _) (.bool true))
  clear hk hb h2 h3 h4 h5 hw1
  go_wp2
  refine bodyPost_ret (v := .agg #[.string K, .string ⟨#[]⟩, .bool true]) (by simp [results, Tryz.f14, go_sem, e0, e1, e2]) rfl ?_
  exact ⟨rfl, Fin.out⟩
end Go.Proofs.YtgpdplffljidbaaGreatDoor
