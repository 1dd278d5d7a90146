/-
  Texts of this proof, put together: ArgsH, ArgsL, Args16.
-/
import Derived.Test.YtgpdplffljidbaaGreatDoorRows
import Derived.Carry
import Derived.Deep.Slices
import Derived.Deep.Fields
import Derived.ChangeSame
import Derived.Test.YtgpdplffljidbaaGreatDoorCards
import Derived.Test.YtgpdplffljidbaaGreatDoorTie
import Derived.WalkKit
import Derived.ProofKit
import Derived.OpenShut
import Derived.Below
import Derived.SliceStrings
import Derived.SizedLaws
import Derived.Lay
import Derived.MakeChecks
import Derived.Deep.DeepWitnessRowRef
import Derived.Lib.SmallJoins
import Derived.Lib.LaidTab
import Derived.Test.YtgpdplffljidbaaGreatDoorZ38
namespace Go.Proofs.YtgpdplffljidbaaGreatDoor
set_option maxRecDepth 100000

theorem spot_none15 {w : World} {a : Addr} {v : Value} (h : w.cell? a = some v) : a.spot = none := by
  obtain ⟨b, off, sp⟩ := a
  cases sp with
  | none => rfl
  | some x =>
    simp [World.cell?] at h
    split at h <;> simp at h
theorem lt_size15 {w : World} {b off : Nat} {v : Value} (h : w.cell? ⟨b, off, none⟩ = some v) : b < w.heap.size := by
  rcases Nat.lt_or_ge b w.heap.size with h1 | h1
  · exact h1
  · rw [World.cell?, Array.getElem?_eq_none h1] at h
    simp at h
theorem i64_of15 {i : Int} (h : (Lit.int .i64 i).wf = true) : -9223372036854775808 ≤ i ∧ i ≤ 9223372036854775807 := by
  simp only [Lit.wf, Bool.and_eq_true, decide_eq_true_eq] at h
  have e1 : IntKind.i64.min = -9223372036854775808 := by decide
  have e2 : IntKind.i64.max = 9223372036854775807 := by decide
  omega
end Go.Proofs.YtgpdplffljidbaaGreatDoor
namespace Go.Proofs.YtgpdplffljidbaaGreatDoor
set_option maxRecDepth 100000
open Go.ChangeShapes Go.WideShapes Go.ChangeAt Go.RowKit Go.Joins Go.Deep

theorem own : ownKnob Tryz.prog.godebug = none := by kernel_rfl
theorem laid_out : laidOutB Tryz.prog = true := by kernel_rfl

section
variable {H : Type} {enc : TypeId × Value → H} {W W' : World} {args : Array Value} {ds : List (DataW H)} {before : List MemPlace} {f : Func} {s : ChangeSpec}
theorem true_post (hv : s.vars = []) (hr : f.resultTypes = #[4]) (hs : s.fn H ds = { results := [.lit (.bool true)], args := ds }) (hW : DataW.Whole enc Tryz.prog f.params.toList s.vars false W args.toList ds [] before)
    (hargs : DataW.TrodAll enc Tryz.prog W' 0 (fun b => decide (b < W.heap.size)) true f.params.toList args.toList ds before) (hb : Below W.heap.size W W') :
    s.post enc Tryz.prog f false true false false W args (.bool true) W' := by
  refine ⟨ds, [], before, [], before, [], hW, ?_, ?_, ?_, hb.frame _, fun h => by cases h⟩
  · rw [hr, List.append_nil, hs]
    exact trodAll_mk1 (shut_bool Tryz.underlying4 _)
  · rw [List.append_nil, hs]
    exact hargs
  · rw [hv, List.append_nil, hs]
    rfl
end

noncomputable def firstWorld (os : Os) : World := World.laidAll Tryz.prog os Rows.spoolPlaysRow.laid
theorem first_met (os : Os) (args : Array Value) : laidMetH Tryz.prog Rows.spoolPlaysRow.laid ((firstWorld os).forCall (fun _ _ => 0) ⟨#[], args, []⟩).memory := by
  rw [MakeChecks.laidMetH_plain _ _ _ (by kernel_rfl)]
  exact laidMet_laidAll _ (by kernel_rfl) (by kernel_rfl)
end Go.Proofs.YtgpdplffljidbaaGreatDoor
namespace Go.Proofs.YtgpdplffljidbaaGreatDoor
set_option maxRecDepth 100000
open Go.ChangeShapes Go.WideShapes Go.ChangeAt Go.RowKit Go.Joins Go.Deep

theorem laid_tail {P : Program} {x : String × DataW Unit} {r : List (String × DataW Unit)} {w : World} (h : laidMet P (x :: r) w) : laidMet P r w := by
  obtain ⟨ps, ⟨g, t, cs, fuel, p, q, _, _, _, _, hr, rfl⟩, hn, ha⟩ := h
  exact ⟨q, hr, (List.nodup_append.1 hn).2.1, fun b off hb => ha b off (List.mem_append_right _ hb)⟩
theorem pow_laid {W : World} (h : laidMetH Tryz.prog Rows.spoolPlaysRow.laid W) : PowIs W := by
  rw [MakeChecks.laidMetH_plain _ _ _ (by kernel_rfl)] at h
  have h2 : laidMet Tryz.prog (("internal/strconv.uint64pow10", Lib.tabData .u64 Lib.pow10Tab) :: (Rows.spoolPlaysRow.laid.drop 3)) W := laid_tail (laid_tail h)
  exact Lib.tabIs_of_head (g := 2) (t := 223) (e := 147) (n := 20) (by kernel_rfl) (by kernel_rfl) Tryz.underlying223 Tryz.underlying147 (by kernel_rfl) (by kernel_rfl) h2
def SmallI (x : ItemS) : Prop := x.fr.length ≤ maxLen ∧ x.to.length ≤ maxLen ∧ x.tx.length ≤ maxLen ∧ -9223372036854775808 ≤ x.d ∧ x.d ≤ 9223372036854775807
section
variable {H : Type} {enc : TypeId × Value → H} {W : World} {base : Nat} {v : Value} {d : DataW H} {p : List MemPlace}
theorem item_cells {cs : List Value} {n : Nat} {y : DataW H × List MemPlace} (h : DataW.trod enc Tryz.prog W 0 (fun _ => true) true n 44 cs = some y) :
    ∃ x : ItemS, cs = itemCells x ∧ SmallI x := by
  obtain ⟨xs, m, _, hx, hl, hlen, hf⟩ := DataW.trod_struct Tryz.underlying44 h
  have e7 : Tryz.prog.cellsOf 44 = 7 := by kernel_rfl
  have e3 : Tryz.prog.cellsOf 42 = 3 := by kernel_rfl
  have e1i : Tryz.prog.cellsOf 3 = 1 := by kernel_rfl
  have e1s : Tryz.prog.cellsOf 9 = 1 := by kernel_rfl
  rw [e7] at hl
  match cs, hl, xs, hlen with
  | [a0, a1, a2, a3, a4, a5, a6], _, [y0, y1, y2, y3, y4], _ =>
    have h0 : DataW.trod enc Tryz.prog W 0 (fun _ => true) true m 3 (([a0, a1, a2, a3, a4, a5, a6].drop 0).take (Tryz.prog.cellsOf 3)) = some y0 := hf 0 _ rfl
    rw [e1i] at h0
    have h1 : DataW.trod enc Tryz.prog W 0 (fun _ => true) true m 9 (([a0, a1, a2, a3, a4, a5, a6].drop 1).take (Tryz.prog.cellsOf 9)) = some y1 := hf 1 _ rfl
    rw [e1s] at h1
    have h2 : DataW.trod enc Tryz.prog W 0 (fun _ => true) true m 9 (([a0, a1, a2, a3, a4, a5, a6].drop 2).take (Tryz.prog.cellsOf 9)) = some y2 := hf 2 _ rfl
    rw [e1s] at h2
    have h3 : DataW.trod enc Tryz.prog W 0 (fun _ => true) true m 9 (([a0, a1, a2, a3, a4, a5, a6].drop 3).take (Tryz.prog.cellsOf 9)) = some y3 := hf 3 _ rfl
    rw [e1s] at h3
    have h4 : DataW.trod enc Tryz.prog W 0 (fun _ => true) true m 42 (([a0, a1, a2, a3, a4, a5, a6].drop 4).take (Tryz.prog.cellsOf 42)) = some y4 := hf 4 _ rfl
    rw [e3] at h4
    obtain ⟨i, q0, _, w0⟩ := DataW.trod_int Tryz.underlying3 (show DataW.trod enc Tryz.prog W 0 (fun _ => true) true m 3 [a0] = some y0 from h0)
    obtain ⟨f, q1, _, w1⟩ := DataW.trod_string Tryz.underlying9 (show DataW.trod enc Tryz.prog W 0 (fun _ => true) true m 9 [a1] = some y1 from h1)
    obtain ⟨o, q2, _, w2⟩ := DataW.trod_string Tryz.underlying9 (show DataW.trod enc Tryz.prog W 0 (fun _ => true) true m 9 [a2] = some y2 from h2)
    obtain ⟨x, q3, _, w3⟩ := DataW.trod_string Tryz.underlying9 (show DataW.trod enc Tryz.prog W 0 (fun _ => true) true m 9 [a3] = some y3 from h3)
    obtain ⟨zs, m2, _, _, hl2, hlen2, hf2⟩ := DataW.trod_struct Tryz.underlying42 (show DataW.trod enc Tryz.prog W 0 (fun _ => true) true m 42 [a4, a5, a6] = some y4 from h4)
    match zs, hlen2 with
    | [z0, z1, z2], _ =>
      have g0 : DataW.trod enc Tryz.prog W 0 (fun _ => true) true m2 3 (([a4, a5, a6].drop 0).take (Tryz.prog.cellsOf 3)) = some z0 := hf2 0 _ rfl
      rw [e1i] at g0
      have g1 : DataW.trod enc Tryz.prog W 0 (fun _ => true) true m2 3 (([a4, a5, a6].drop 1).take (Tryz.prog.cellsOf 3)) = some z1 := hf2 1 _ rfl
      rw [e1i] at g1
      have g2 : DataW.trod enc Tryz.prog W 0 (fun _ => true) true m2 3 (([a4, a5, a6].drop 2).take (Tryz.prog.cellsOf 3)) = some z2 := hf2 2 _ rfl
      rw [e1i] at g2
      obtain ⟨b, q4, _, w4⟩ := DataW.trod_int Tryz.underlying3 (show DataW.trod enc Tryz.prog W 0 (fun _ => true) true m2 3 [a4] = some z0 from g0)
      obtain ⟨t, q5, _, w5⟩ := DataW.trod_int Tryz.underlying3 (show DataW.trod enc Tryz.prog W 0 (fun _ => true) true m2 3 [a5] = some z1 from g1)
      obtain ⟨u, q6, _, w6⟩ := DataW.trod_int Tryz.underlying3 (show DataW.trod enc Tryz.prog W 0 (fun _ => true) true m2 3 [a6] = some z2 from g2)
      simp only [List.cons.injEq, and_true] at q0 q1 q2 q3 q4 q5 q6
      subst q0 q1 q2 q3 q4 q5 q6
      exact ⟨⟨i, f.data.toList, o.data.toList, x.data.toList, b, t, u⟩, rfl, w1, w2, w3, i64_of15 w6⟩
theorem items_trod {cs : List Value} {n : Nat} {y : DataW H × List MemPlace} (h : DataW.trod enc Tryz.prog W 0 (fun _ => true) true n 32 cs = some y) :
    ∃ v l, cs = [v] ∧ ItemsAt W W.heap.size v l ∧ ∀ x ∈ l, SmallI x := by
  rcases open_slice Tryz.underlying32 h with ⟨hcs, _⟩ | ⟨ad, len, cap, m, n, D, Pl, hcs, _, hl, hm, hmm, hx, hi⟩
  · exact ⟨_, [], hcs, ItemsAt.nil _ _, fun f hf => by cases hf⟩
  · simp only [if_true] at hmm
    have e7 : Tryz.prog.cellsOf 44 = 7 := by kernel_rfl
    rw [e7] at hi
    have hall : ∀ i, i < len → ∃ x : ItemS, SmallI x ∧ ∀ j, j < 7 → W.cell? ((ad.add (i * 7)).add j) = (itemCells x)[j]? := fun i hlt => by
      obtain ⟨cs', hc, ht⟩ := hi i (by omega)
      obtain ⟨x, rfl, hs⟩ := item_cells ht
      obtain ⟨_, _, hat⟩ := World.cells?_some hc
      exact ⟨x, hs, fun j hj => hat j hj⟩
    have hch : ∃ f : Nat → ItemS, ∀ i, i < len → SmallI (f i) ∧ ∀ j, j < 7 → W.cell? ((ad.add (i * 7)).add j) = (itemCells (f i))[j]? := by
      classical
      refine ⟨fun i => if h : i < len then (hall i h).choose else ⟨0, [], [], [], 0, 0, 0⟩, fun i hlt => ?_⟩
      simp only [dif_pos hlt]
      exact (hall i hlt).choose_spec
    obtain ⟨f, hf⟩ := hch
    have hlen : ((List.range len).map f).length = len := by simp
    refine ⟨_, (List.range len).map f, hcs, ⟨some ad, cap, by rw [hlen], by rw [hlen]; exact hl, hm, fun i hi2 => ?_⟩, ?_⟩
    · rw [hlen] at hi2
      have hc0 := (hf 0 (by omega)).2 0 (by omega)
      have hadd : (ad.add (0 * 7)).add 0 = ad := by simp [Addr.add]
      rw [hadd] at hc0
      have hsp := spot_none15 (v := .int .i64 (f 0).id) hc0
      obtain ⟨b, off, sp⟩ := ad
      obtain rfl : sp = none := hsp
      have hblt : b < W.heap.size := lt_size15 (v := .int .i64 (f 0).id) hc0
      have hcj := (hf i hi2).2
      simp only [Addr.add_lit] at hcj
      simp only [List.getElem_map, List.getElem_range]
      exact ⟨b, off, rfl, hblt, hcj⟩
    · intro c hc
      obtain ⟨i, hi', rfl⟩ := List.mem_map.1 hc
      exact (hf i (List.mem_range.1 hi')).1
def Smalls8 (w : World) (A : Option Addr) (n : Nat) : Prop :=
  n = 0 ∨ ∃ b off, A = some ⟨b, off, none⟩ ∧ b < w.heap.size ∧ ∀ i, i < n → ∃ k : Nat, k < 256 ∧ w.cell? ⟨b, off + i, none⟩ = some (.int .u8 (k : Int))
theorem Smalls8.at {w : World} {A : Option Addr} {n : Nat} (h : Smalls8 w A n) {i : Nat} (hi : i < n) : ∃ (b off k : Nat), A = some ⟨b, off, none⟩ ∧ k < 256 ∧ ∀ W, Below w.heap.size w W → W.cell? ⟨b, off + i, none⟩ = some (.int .u8 (k : Int)) := by
  rcases h with h | ⟨b, off, h1, h2, h3⟩
  · omega
  · obtain ⟨k, hk, hc⟩ := h3 i hi
    exact ⟨b, off, k, h1, hk, fun W hW => (hW.cell (p := ⟨b, off + i, none⟩) h2).trans hc⟩
theorem u8_of16 {i : Int} (h : (Lit.int .u8 i).wf = true) : ∃ n : Nat, i = (n : Int) ∧ n < 256 := by
  simp only [Lit.wf, Bool.and_eq_true, decide_eq_true_eq] at h
  have e1 : IntKind.u8.min = 0 := by decide
  have e2 : IntKind.u8.max = 255 := by decide
  exact ⟨i.toNat, by omega, by omega⟩
theorem open_u8s (hv : Value.okWide Tryz.prog W .any base 65 v) (h : DataW.Trod enc Tryz.prog W 0 (fun _ => true) true 65 v d p) :
    ∃ A n c, v = .slice A n c ∧ Smalls8 W A n ∧ n ≤ c ∧ c ≤ maxLen := by
  obtain ⟨a, l, c, rfl⟩ := okWide_slice Tryz.underlying65 hv
  obtain ⟨fuel, h⟩ := h
  have h2 : DataW.trod enc Tryz.prog W 0 (fun _ => true) true fuel 65 [.slice a l c] = some (d, p) := by simpa [Value.cells] using h
  rcases open_slice Tryz.underlying65 h2 with ⟨hcs, _⟩ | ⟨ad, len, cap, m, n, D, Pl, hcs, _, hl, hm, hmm, hx, hi⟩
  · simp only [List.cons.injEq, and_true] at hcs
    exact ⟨none, 0, 0, hcs, .inl rfl, Nat.le_refl _, by decide⟩
  · simp only [List.cons.injEq, and_true] at hcs
    simp only [if_true] at hmm
    have e3 : Tryz.prog.cellsOf 5 = 1 := by kernel_rfl
    rw [e3] at hi
    have hall : ∀ i, i < len → ∃ k : Nat, k < 256 ∧ W.cell? ((ad.add (i * 1)).add 0) = some (.int .u8 (k : Int)) := fun i hlt => by
      obtain ⟨cs', hc, ht⟩ := hi i (by omega)
      obtain ⟨x, rfl, _, hw⟩ := DataW.trod_int Tryz.underlying5 ht
      obtain ⟨k, rfl, hk⟩ := u8_of16 hw
      obtain ⟨_, _, hat⟩ := World.cells?_some hc
      exact ⟨k, hk, hat 0 (by omega)⟩
    refine ⟨some ad, len, cap, hcs, ?_, hl, hm⟩
    rcases Nat.eq_zero_or_pos len with h0 | h0
    · exact .inl h0
    · obtain ⟨k0, _, hc0⟩ := hall 0 h0
      have hadd : (ad.add (0 * 1)).add 0 = ad := by simp [Addr.add]
      rw [hadd] at hc0
      have hsp := spot_none15 hc0
      obtain ⟨b, off, sp⟩ := ad
      obtain rfl : sp = none := hsp
      refine .inr ⟨b, off, rfl, lt_size15 hc0, fun i hlt => ?_⟩
      obtain ⟨k, hk, hcj⟩ := hall i hlt
      simp only [Addr.add_lit, Nat.add_zero, Nat.mul_one] at hcj
      exact ⟨k, hk, hcj⟩
theorem open_item (hv : Value.okWide Tryz.prog W .any base 44 v) (h : DataW.Trod enc Tryz.prog W 0 (fun _ => true) true 44 v d p) :
    ∃ x : ItemS, v = itemV x ∧ SmallI x := by
  obtain ⟨cs, rfl, _⟩ := okWide_struct Tryz.underlying44 hv
  obtain ⟨fuel, hf⟩ := h
  obtain ⟨x, e, hs⟩ := item_cells (show DataW.trod enc Tryz.prog W 0 (fun _ => true) true fuel 44 cs.toList = some (d, p) by simpa [Value.cells] using hf)
  refine ⟨x, ?_, hs⟩
  have e2 : cs = (itemCells x).toArray := by rw [← e]
  rw [e2]
  rfl
theorem open_items (hv : Value.okWide Tryz.prog W .any base 32 v) (h : DataW.Trod enc Tryz.prog W 0 (fun _ => true) true 32 v d p) :
    ∃ l, ItemsAt W W.heap.size v l ∧ ∀ x ∈ l, SmallI x := by
  obtain ⟨a, l, c, rfl⟩ := okWide_slice Tryz.underlying32 hv
  obtain ⟨fuel, h⟩ := h
  obtain ⟨v', l', e, h1, h2⟩ := items_trod (show DataW.trod enc Tryz.prog W 0 (fun _ => true) true fuel 32 [.slice a l c] = some (d, p) by simpa [Value.cells] using h)
  simp only [List.cons.injEq, and_true] at e
  subst e
  exact ⟨l', h1, h2⟩
def ItemRows (w : World) (B : Nat) (v : Value) (ls : List (List ItemS)) : Prop :=
  ∃ ao cap, v = .slice ao ls.length cap ∧ ls.length ≤ cap ∧ cap ≤ maxLen ∧ ∀ i (hi : i < ls.length), ∃ g off v', ao = some ⟨g, off, none⟩ ∧ g < B ∧ w.cell? ⟨g, off + i, none⟩ = some v' ∧ ItemsAt w B v' ls[i]
theorem open_itemss (hw : ∀ n ∈ d.weights Tryz.prog 64, n ≤ reachBytes) (hv : Value.okWide Tryz.prog W .any base 64 v) (h : DataW.Trod enc Tryz.prog W 0 (fun _ => true) true 64 v d p) :
    ∃ ls, ItemRows W W.heap.size v ls ∧ ls.length ≤ 1000000000000000 ∧ ∀ l ∈ ls, ∀ x ∈ l, SmallI x := by
  obtain ⟨a, l, c, rfl⟩ := okWide_slice Tryz.underlying64 hv
  obtain ⟨fuel, h⟩ := h
  have h2 : DataW.trod enc Tryz.prog W 0 (fun _ => true) true fuel 64 [.slice a l c] = some (d, p) := by simpa [Value.cells] using h
  rcases open_slice Tryz.underlying64 h2 with ⟨hcs, _⟩ | ⟨ad, len, cap, m, n, D, Pl, hcs, _, hl, hm, hmm, hx, hi⟩
  · simp only [List.cons.injEq, and_true] at hcs
    exact ⟨[], ⟨none, 0, hcs, Nat.le_refl _, by simp, fun i hi => by simp at hi⟩, by simp, fun l hl => by cases hl⟩
  · simp only [List.cons.injEq, and_true] at hcs
    simp only [if_true] at hmm
    have hlen15 : len ≤ 1000000000000000 := by
      obtain ⟨hd, _⟩ := Prod.mk.inj hx
      subst hd
      have h3 := hw _ (by
        rw [DataW.weights, Tryz.underlying64]
        exact List.mem_cons_self ..)
      rw [show Tryz.prog.bytesOf 32 = 24 by kernel_rfl, List.length_map, List.length_map, List.length_range, List.length_range] at h3
      unfold reachBytes at h3
      omega
    have e1 : Tryz.prog.cellsOf 32 = 1 := by kernel_rfl
    rw [e1] at hi
    have hall : ∀ i, i < len → ∃ x : Value × List ItemS, (ItemsAt W W.heap.size x.1 x.2 ∧ ∀ y ∈ x.2, SmallI y) ∧ W.cell? ((ad.add (i * 1)).add 0) = some x.1 := fun i hlt => by
      obtain ⟨cs', hc, ht⟩ := hi i (by omega)
      obtain ⟨x, l', rfl, hs⟩ := items_trod ht
      obtain ⟨_, _, hat⟩ := World.cells?_some hc
      exact ⟨⟨x, l'⟩, hs, hat 0 (by omega)⟩
    have hch : ∃ f : Nat → Value × List ItemS, ∀ i, i < len → (ItemsAt W W.heap.size (f i).1 (f i).2 ∧ ∀ y ∈ (f i).2, SmallI y) ∧ W.cell? ((ad.add (i * 1)).add 0) = some (f i).1 := by
      classical
      refine ⟨fun i => if h : i < len then (hall i h).choose else ⟨.bool false, []⟩, fun i hlt => ?_⟩
      simp only [dif_pos hlt]
      exact (hall i hlt).choose_spec
    obtain ⟨f, hf⟩ := hch
    have hlen : ((List.range len).map fun i => (f i).2).length = len := by simp
    refine ⟨(List.range len).map fun i => (f i).2, ⟨some ad, cap, by rw [hlen]; exact hcs, by rw [hlen]; exact hl, hm, fun i hi2 => ?_⟩, by rw [hlen]; exact hlen15, ?_⟩
    · rw [hlen] at hi2
      have hc0 := (hf 0 (by omega)).2
      have hadd : (ad.add (0 * 1)).add 0 = ad := by simp [Addr.add]
      rw [hadd] at hc0
      have hsp := spot_none15 hc0
      obtain ⟨b, off, sp⟩ := ad
      obtain rfl : sp = none := hsp
      have hblt : b < W.heap.size := lt_size15 hc0
      have hcj := (hf i hi2).2
      simp only [Addr.add_lit, Nat.mul_one, Nat.add_zero] at hcj
      simp only [List.getElem_map, List.getElem_range]
      exact ⟨b, off, _, rfl, hblt, hcj, (hf i hi2).1.1⟩
    · intro c hc
      obtain ⟨i, hi', rfl⟩ := List.mem_map.1 hc
      exact (hf i (List.mem_range.1 hi')).1.2
end
end Go.Proofs.YtgpdplffljidbaaGreatDoor
