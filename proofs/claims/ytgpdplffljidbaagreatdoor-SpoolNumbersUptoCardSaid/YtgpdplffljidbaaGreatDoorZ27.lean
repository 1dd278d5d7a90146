/-
  Texts of this proof, put together: StL.
-/
import Derived.Test.YtgpdplffljidbaaGreatDoorZ26
import Derived.Deep.RegionHeld3
namespace Go.Proofs.YtgpdplffljidbaaGreatDoor
open Go.RowKit Go.Maps

def hearL (H : List UInt8 → List UInt8) : Nat → List (List UInt8) → PlP → List (List UInt8) → List (List UInt8) × PlP
  | 0, _, p, ts => (ts, p)
  | f + 1, ss, p, ts =>
    match readR H (ss.drop p.at_) with
    | some (g, n, t) => if n = p.num ∧ (ts = [] ∨ g = p.gen) then hearL H f ss (plNext ⟨p.half, p.at_, g, n⟩ t.length) (ts ++ [t]) else (ts, p)
    | none => (ts, p)
theorem read_room {H : List UInt8 → List UInt8} {ss : List (List UInt8)} {g n : Nat} {t : List UInt8} (h : readR H ss = some (g, n, t)) : secN t.length ≤ ss.length ∧ t.length ≤ 64 * ss.length := by
  match ss, h with
  | s :: ss, h =>
    unfold readR at h
    simp only at h
    split at h
    · rename_i hc
      simp only [Option.some.injEq, Prod.mk.injEq] at h
      obtain ⟨_, _, h⟩ := h
      have hl : t.length ≤ val4 ((s.drop 10).take 4) := by rw [← h, List.length_take]; omega
      have := secN_mono hl
      have h3 := hc.2.2.1
      rw [List.length_cons]
      refine ⟨by omega, ?_⟩
      have : t.length ≤ 64 * secN t.length := by unfold secN; omega
      omega
    · cases h

structure HearAt (w : World) (N Nd m : Nat) (st : StP) (nb rb : Nat) (p : PlP) (v : Value) (ts : List (List UInt8)) (W : World) : Prop where
  kept : WholeKept N Nd m st w W
  nx : W.heap[nb]? = some (.cells #[.int .i64 (p.half : Int), .int .i64 (p.at_ : Int), .int .u32 (p.gen : Int), .int .u32 (p.num : Int)] 92 (0, 0))
  rs : W.heap[rb]? = some (.cells #[.int .i64 0, .int .i64 0, .int .u32 0, .int .u32 0] 92 (0, 0))
  row : OwnT9 w.heap.size W v ts

theorem WholeKept.trans {N Nd m : Nat} {st : StP} {w w' w'' : World} (h : WholeKept N Nd m st w w') (k : WholeKept N Nd m st w' w'') : WholeKept N Nd m st w w'' := by
  obtain ⟨_, _, _, t1⟩ := h
  obtain ⟨cs', h1, h2, t2⟩ := k
  exact ⟨cs', h1, h2, t1.trans t2 (fun b hb => .inl hb)⟩
theorem WholeKept.below {N Nd m : Nat} {st : StP} {w w' w'' : World} (h : WholeKept N Nd m st w w') (k : Below w.heap.size w' w'') (hN : N < w.heap.size) : WholeKept N Nd m st w w'' := by
  obtain ⟨cs', h1, h2, t1⟩ := h
  exact ⟨cs', h1.below k hN, h2, t1.trans (T := fun b => w.heap.size ≤ b) ⟨k.os, k.tape, k.output, k.size, fun j _ hs => k.block j (by omega)⟩ (fun b hb => .inr hb)⟩
theorem HearAt.turn {w W W' : World} {N Nd m nb rb : Nat} {st : StP} {p : PlP} {v : Value} {ts : List (List UInt8)} (h : HearAt w N Nd m st nb rb p v ts W) (k : WholeKept N Nd m st W W') : HearAt w N Nd m st nb rb p v ts W' := by
  obtain ⟨cs', h1, h2, t⟩ := k
  obtain ⟨cs0, h0, _, _⟩ := h.kept
  refine ⟨h.kept.trans ⟨cs', h1, h2, t⟩, t.heap h.nx (fun e => ?_), t.heap h.rs (fun e => ?_), t.row h.row (fun b hb e => ?_)⟩
  · have := h.nx
    rw [e, h0] at this
    simp at this
  · have := h.rs
    rw [e, h0] at this
    simp at this
  · subst e
    obtain ⟨_, cur, hcur⟩ := row_block h.row hb
    rw [h0] at hcur
    simp at hcur

theorem WholeKept.size {N Nd m : Nat} {st : StP} {w w' : World} (h : WholeKept N Nd m st w w') : w.heap.size ≤ w'.heap.size := by
  obtain ⟨_, _, _, t⟩ := h
  exact t.size

theorem turned_four (W : World) (b : Nat) (v0 v1 v2 v3 : Value) : Turned (fun x => x = b) W ((((W.setCell ⟨b, 0, none⟩ v0).setCell ⟨b, 1, none⟩ v1).setCell ⟨b, 2, none⟩ v2).setCell ⟨b, 3, none⟩ v3) :=
  (((Turned.set (S := fun x => x = b) rfl).trans (Turned.set (S := fun x => x = b) rfl) (fun _b hb => .inl hb)).trans (Turned.set (S := fun x => x = b) rfl) (fun _b hb => .inl hb)).trans (Turned.set (S := fun x => x = b) rfl) (fun _b hb => .inl hb)
theorem HearAt.fin {w W : World} {N Nd m nb rb : Nat} {st : StP} {p : PlP} {v : Value} {ts : List (List UInt8)} (h : HearAt w N Nd m st nb rb p v ts W) (hrb : w.heap.size ≤ rb) (hN : N < w.heap.size) (v0 v1 v2 v3 : Value) :
    WholeKept N Nd m st w ((((W.setCell ⟨rb, 0, none⟩ v0).setCell ⟨rb, 1, none⟩ v1).setCell ⟨rb, 2, none⟩ v2).setCell ⟨rb, 3, none⟩ v3).drew ∧
      OwnT9 w.heap.size ((((W.setCell ⟨rb, 0, none⟩ v0).setCell ⟨rb, 1, none⟩ v1).setCell ⟨rb, 2, none⟩ v2).setCell ⟨rb, 3, none⟩ v3).drew v ts := by
  have t := turned_four W rb v0 v1 v2 v3
  refine ⟨(h.kept.below (t.below h.kept.size (fun b e => by rw [e]; exact hrb)) hN).drew, ?_⟩
  have hr := t.row h.row (fun b hb e => by
    subst e
    obtain ⟨_, cur, hcur⟩ := row_block h.row hb
    rw [h.rs] at hcur
    simp at hcur)
  exact hr
theorem HearAt.other {w W W' : World} {N Nd m nb rb x : Nat} {st : StP} {p : PlP} {v : Value} {ts : List (List UInt8)} (h : HearAt w N Nd m st nb rb p v ts W) (hN : N < w.heap.size) (t : Turned (fun b => b = x) W W') (hx : w.heap.size ≤ x) (h1 : nb ≠ x) (h2 : rb ≠ x) {cs : Array Value} (hc : W.heap[x]? = some (.cells cs 92 (0, 0))) : HearAt w N Nd m st nb rb p v ts W' := by
  refine ⟨h.kept.below (t.below h.kept.size (fun b e => by rw [e]; exact hx)) hN, t.heap h.nx (fun e => h1 e), t.heap h.rs (fun e => h2 e), t.row h.row (fun b hb e => ?_)⟩
  subst e
  obtain ⟨_, cur, hcur⟩ := row_block h.row hb
  rw [hc] at hcur
  simp at hcur
theorem HearAt.next {w W : World} {N Nd m nb rb : Nat} {st : StP} {p : PlP} {v : Value} {ts : List (List UInt8)} (h : HearAt w N Nd m st nb rb p v ts W) (hN : N < w.heap.size) (hnb : w.heap.size ≤ nb) (hr : rb ≠ nb) (q : PlP) :
    HearAt w N Nd m st nb rb q v ts ((((W.setCell ⟨nb, 0, none⟩ (.int .i64 (q.half : Int))).setCell ⟨nb, 1, none⟩ (.int .i64 (q.at_ : Int))).setCell ⟨nb, 2, none⟩ (.int .u32 (q.gen : Int))).setCell ⟨nb, 3, none⟩ (.int .u32 (q.num : Int))) := by
  have t := turned_four W nb (.int .i64 (q.half : Int)) (.int .i64 (q.at_ : Int)) (.int .u32 (q.gen : Int)) (.int .u32 (q.num : Int))
  refine ⟨h.kept.below (t.below h.kept.size (fun b e => by rw [e]; exact hnb)) hN, ?_, t.heap h.rs (fun e => hr e), t.row h.row (fun b hb e => ?_)⟩
  · exact set_block (j := 3) (set_block (j := 2) (set_block (j := 1) (set_block (j := 0) h.nx)))
  · subst e
    obtain ⟨_, cur, hcur⟩ := row_block h.row hb
    rw [h.nx] at hcur
    simp at hcur
theorem HearAt.below {w W W' : World} {N Nd m nb rb : Nat} {st : StP} {p : PlP} {v : Value} {ts : List (List UInt8)} (h : HearAt w N Nd m st nb rb p v ts W) (hN : N < w.heap.size) (hb : Below W.heap.size W W') : HearAt w N Nd m st nb rb p v ts W' :=
  ⟨h.kept.below (hb.mono h.kept.size) hN, (hb.block nb (Array.getElem?_eq_some_iff.1 h.nx).1).trans h.nx, (hb.block rb (Array.getElem?_eq_some_iff.1 h.rs).1).trans h.rs, ownsRow_below4 h.row hb⟩
theorem HearAt.more {w W W' : World} {N Nd m nb rb : Nat} {st : StP} {p : PlP} {v v' : Value} {ts ts' : List (List UInt8)} (h : HearAt w N Nd m st nb rb p v ts W) (hN : N < w.heap.size) (t : Turned (blkOf v) W W') (hr : OwnT9 w.heap.size W' v' ts') : HearAt w N Nd m st nb rb p v' ts' W' := by
  refine ⟨h.kept.below (t.below h.kept.size (fun b e => (row_block h.row e).1)) hN, t.heap h.nx (fun e => ?_), t.heap h.rs (fun e => ?_), hr⟩
  · obtain ⟨_, cur, hcur⟩ := row_block h.row e
    rw [h.nx] at hcur
    simp at hcur
  · obtain ⟨_, cur, hcur⟩ := row_block h.row e
    rw [h.rs] at hcur
    simp at hcur

set_option maxRecDepth 100000 in
set_option maxHeartbeats 4000000 in
theorem hear_any (B N Nd g m : Nat) (cs : Array Value) (st : StP) (d : Dk) (w : World) (h : Held9 w N cs 110) (hc : CellsOk cs Nd m st) (hd : DiskAt w B Nd g d)
    (half : Nat) (hf : st.fr ≤ 100000) (hz : st.sz ≤ 10000) (hz1 : 1 ≤ st.sz) (hh : half ≤ 1) (hfit : st.fr + half * st.sz + st.sz ≤ d.ss.length) :
    Calls Tryz.prog 46 #[.pointer (some ⟨N, 0, none⟩), .int .i64 (half : Int)] w fun e w' => WholeKept N Nd m st w w' ∧
      ((d.down = true ∧ e = .returned (.tuple #[.slice none 0 0, plV ⟨0, 0, 0, 0⟩, .int .i64 6])) ∨
        (d.down = false ∧ ∃ v, e = .returned (.tuple #[v, plV (hearL sumH (st.sz + 1) (halfD d.ss (st.fr + half * st.sz) st.sz) ⟨half, 0, 0, 0⟩ []).2, .int .i64 0]) ∧ OwnT9 w.heap.size w' v (hearL sumH (st.sz + 1) (halfD d.ss (st.fr + half * st.sz) st.sz) ⟨half, 0, 0, 0⟩ []).1)) := by
  have hNl := h.lt
  have hrd := wread_any B N Nd g m cs st d (w.alloc (.cells #[.int .i64 0, .int .i64 0, .int .u32 0, .int .u32 0] 92)) (h.alloc _) hc (hd.below ((Below.refl _ w).alloc (Nat.le_refl _) _)) half hf hz hz1 hh hfit
  have hlen := half_len (ss := d.ss) hfit
  have h64 : ∀ s ∈ halfD d.ss (st.fr + half * st.sz) st.sz, s.length = 64 := fun s hs => hd.ok.ss s (half_mem hs)
  have hb0 := (Below.refl w.heap.size w).alloc (Nat.le_refl _) (.cells #[.int .i64 0, .int .i64 0, .int .u32 0, .int .u32 0] 92)
  have hr0 := heap_alloc_new w (.cells #[.int .i64 0, .int .i64 0, .int .u32 0, .int .u32 0] 92)
  have hk0 : ∀ W, Below w.heap.size w W → WholeKept N Nd m st w W := fun W hW => ⟨cs, h.below hW hNl, hc, Turned.of_below hW (Nat.le_refl _)⟩
  obtain ⟨sz, hsz⟩ : ∃ sz, st.sz = sz := ⟨_, rfl⟩
  obtain ⟨dn, hdn⟩ : ∃ dn, d.down = dn := ⟨_, rfl⟩
  rw [hdn] at hrd ⊢
  rw [hsz] at hrd hz hz1 hlen h64 ⊢
  generalize halfD d.ss (st.fr + half * sz) sz = ss at *
  have HK0 := Lib.hid hk0
  have HC := Lib.hid (And.intro h hc)
  clear hk0 h hc hd hfit hdn hsz hf
  cases dn with
  | true =>
    rw [if_pos rfl] at hrd
    go_enter Tryz.func46, Tryz.ntmps46
    go_wp2_with fail
    refine hrd.mono ?_
    rintro e w1 ⟨rfl, hb1⟩
    have hb01 := hb0.trans (hb1.mono (by simp))
    have hr1 := (hb1.block w.heap.size (by simp)).trans hr0
    obtain ⟨r0, r1, r2, r3, rf⟩ := cells_four9 hr1
    clear hrd hb1 hr0 hb0
    have hf := HK0.out _ (((((hb01.setCell (p := ⟨w.heap.size, 0, none⟩) (Nat.le_refl _) (.int .i64 0)).setCell (p := ⟨w.heap.size, 1, none⟩) (Nat.le_refl _) (.int .i64 0)).setCell (p := ⟨w.heap.size, 2, none⟩) (Nat.le_refl _) (.int .u32 0)).setCell (p := ⟨w.heap.size, 3, none⟩) (Nat.le_refl _) (.int .u32 0)))
    have HF := Lib.hid hf
    clear hf hb01
    go_wp2_with fail
    exact bodyPost_ret (v := .tuple #[.slice none 0 0, plV ⟨0, 0, 0, 0⟩, .int .i64 6]) (by simp [results, Tryz.results46, go_sem, plV, plCells, r0, r1, r2, r3]) rfl ⟨HF.out, .inl ⟨by first | rfl | trivial, rfl⟩⟩
  | false =>
    rw [if_neg (by decide)] at hrd
    go_enter Tryz.func46, Tryz.ntmps46
    go_wp2_with fail
    refine hrd.mono ?_
    rintro e w1 ⟨rfl, hb1⟩
    have hb01 := hb0.trans (hb1.mono (by simp))
    have hr1 := (hb1.block w.heap.size (by simp)).trans hr0
    obtain ⟨r0, r1, r2, r3, rf⟩ := cells_four9 hr1
    clear hrd hb1 hr0 hb0
    obtain ⟨X, hX⟩ : ∃ X, textQ ss.flatten = X := ⟨_, rfl⟩
    have hXs : X.size = 64 * sz := by rw [← hX, ← hlen, ← flat_size h64]; rfl
    simp only [hX]
    have hal := (Below.refl w1.heap.size w1).alloc (Nat.le_refl _) (.cells #[.int .i64 (half : Int), .int .i64 0, .int .u32 0, .int .u32 0] 92)
    have hA0 : HearAt w N Nd m st w1.heap.size w.heap.size ⟨half, 0, 0, 0⟩ (.slice none 0 0) [] (w1.alloc (.cells #[.int .i64 (half : Int), .int .i64 0, .int .u32 0, .int .u32 0] 92)) :=
      ⟨(HK0.out _ hb01).below (hal.mono hb01.size) hNl, heap_alloc_new w1 _, (hal.block _ (Nat.lt_of_lt_of_le (by have := (Array.getElem?_eq_some_iff.1 hr1).1; exact this) (Nat.le_refl _))).trans hr1, World.ownsRow_nil _ _ _ _⟩
    have HA := Lib.hid hA0
    have hnb : w.heap.size < w1.heap.size := (Array.getElem?_eq_some_iff.1 hr1).1
    have Hb := Lib.hid (And.intro hX h64)
    clear hA0 hal hb01 hr1 r0 r1 r2 r3 rf hX h64
    go_wp2_with fail
    generalize w1.alloc (.cells #[.int .i64 (half : Int), .int .i64 0, .int .u32 0, .int .u32 0] 92) = w2 at HA ⊢
    generalize hnbd : w1.heap.size = nb at HA hnb ⊢
    generalize hrbd : w.heap.size = rb at HA hnb ⊢
    go_loopw [9] (fun v wr => ∃ (f : Nat) (p : PlP) (ts : List (List UInt8)), HearAt w N Nd m st nb rb p v ts wr ∧ Hid (hearL sumH (sz + 1) ss ⟨half, 0, 0, 0⟩ [] = hearL sumH f ss p ts) ∧ p.half = half ∧ (p.at_ ≤ sz ∧ sz + 1 ≤ f + p.at_) ∧ p.num ≤ p.at_ ∧ ts.length ≤ p.at_ ∧ p.gen < 4294967296)
      (fun _ wr => sz - (intOf ((wr.cell? ⟨nb, 1, none⟩).getD (.int .i64 0))).toNat)
    case atStart => exact ⟨sz + 1, _, [], HA.out, Lib.hid rfl, rfl, ⟨Nat.zero_le _, Nat.le_refl _⟩, Nat.le_refl _, Nat.le_refl _, by show 0 < _; omega⟩
    case round =>
      clear HA
      obtain ⟨F, ⟨hf9, at_, gen, num⟩, ts, hA, heq, hph, ⟨hpa, hpF⟩, hpn, hpl, hpg⟩ := hrel
      simp only at hph hpa hpF hpn hpl hpg
      subst hph
      obtain ⟨f, rfl⟩ : ∃ f, F = f + 1 := ⟨F - 1, by omega⟩
      obtain ⟨cs1, hh1, hc1, _⟩ := hA.kept
      obtain ⟨n0, n1, n2, n3, nf⟩ := cells_four9 hA.nx
      have hxe : X.extract (at_ * 64) X.size = textQ (ss.drop at_).flatten := by
        rw [← Hb.out.1, extract_text, List.take_of_length_le (by rw [List.length_drop, flat_size Hb.out.2]; show _ ≤ (ss.flatten).length - _; rw [flat_size Hb.out.2]; omega), Nat.mul_comm, flat_drop _ _ Hb.out.2]
      have hd64 : ∀ s ∈ ss.drop at_, s.length = 64 := fun s hs => Hb.out.2 s (List.mem_of_mem_drop hs)
      have hdl : (ss.drop at_).length = sz - at_ := by rw [List.length_drop, hlen]
      have hwh := whole_any N Nd m cs1 st wr hh1 hc1 (ss.drop at_).flatten (by rw [flat_size hd64]; omega) (by
        rw [← List.length_eq_zero_iff, flat_size hd64]
        omega)
      rw [readF_flat sumH _ hd64] at hwh
      have hstep : hearL sumH (f + 1) ss ⟨hf9, at_, gen, num⟩ ts = match readR sumH (ss.drop at_) with
        | some (g, n, t) => if n = num ∧ (ts = [] ∨ g = gen) then hearL sumH f ss (plNext ⟨hf9, at_, g, n⟩ t.length) (ts ++ [t]) else (ts, ⟨hf9, at_, gen, num⟩)
        | none => (ts, ⟨hf9, at_, gen, num⟩) := rfl
      have HS := Lib.hid hstep
      have HA := Lib.hid hA
      have Hd := Lib.hid (And.intro hdl hd64)
      obtain ⟨Z, hZ⟩ : ∃ Z, textQ (ss.drop at_).flatten = Z := ⟨_, rfl⟩
      rw [hZ] at hxe hwh
      have a1 : (at_ : Int) * 64 ≤ (X.size : Int) := by omega
      have a2 : ((at_ : Int) * 64).toNat = at_ * 64 := by omega
      have HXs := Lib.hid hXs
      have Hm1 := Lib.hid n1
      clear hstep hA hh1 hc1 hdl hd64 hZ hXs
      go_wp2_with fail
      refine hwh.mono ?_
      rintro e w3 ⟨hk3, hr⟩
      have hA3 := HA.out.turn hk3
      clear hwh hk3 n0 n1 n2 n3 nf HA
      have hnb3 : nb < w3.heap.size := (Array.getElem?_eq_some_iff.1 hA3.nx).1
      rcases hr with ⟨hno, he⟩ | ⟨g9, t9, tx, hyes, hgb, hnb9, he⟩
      · -- no whole record
        rw [show plV ⟨0, 0, 0, 0⟩ = .agg #[.int .i64 0, .int .i64 0, .int .u32 0, .int .u32 0] from rfl] at he
        subst he
        have hal := (Below.refl w3.heap.size w3).alloc (Nat.le_refl _) (.cells #[.int .i64 0, .int .i64 0, .int .u32 0, .int .u32 0] 92)
        have hfin : hearL sumH (sz + 1) ss ⟨hf9, 0, 0, 0⟩ [] = (ts, ⟨hf9, at_, gen, num⟩) := by rw [heq.out, HS.out, hno]
        have hA4 : HearAt w N Nd m st nb rb ⟨hf9, at_, gen, num⟩ u9 ts (w3.alloc (.cells #[.int .i64 0, .int .i64 0, .int .u32 0, .int .u32 0] 92)) :=
          ⟨hA3.kept.below (hal.mono hA3.kept.size) hNl, (hal.block nb hnb3).trans hA3.nx, (hal.block rb (by omega)).trans hA3.rs, hA3.row.alloc _⟩
        have HA4 := Lib.hid hA4
        have HF := Lib.hid hfin
        clear hal hA3 hA4 hfin hno HS
        obtain ⟨n0, n1, n2, n3, nf⟩ := cells_four9 HA4.out.nx
        obtain ⟨r0, r1, r2, r3, rf⟩ := cells_four9 HA4.out.rs
        go_wp2_with fail
        generalize w3.alloc (.cells #[.int .i64 0, .int .i64 0, .int .u32 0, .int .u32 0] 92) = w4 at HA4 n0 n1 n2 n3 nf r0 r1 r2 r3 rf ⊢
        go_region
        have HZ := Lib.hid (HA4.out.fin (by omega) hNl (.int .i64 (hf9 : Int)) (.int .i64 (at_ : Int)) (.int .u32 (gen : Int)) (.int .u32 (num : Int)))
        go_wp2_with fail
        exact bodyPost_ret (v := .tuple #[u9, plV ⟨hf9, at_, gen, num⟩, .int .i64 0]) (by simp [results, Tryz.results46, go_sem, plV, plCells, r0, r1, r2, r3]) rfl ⟨HZ.out.1, .inr ⟨by first | rfl | trivial, _, by rw [HF.out], by rw [HF.out]; exact HZ.out.2⟩⟩
      · rw [show plV ⟨0, 0, g9, t9⟩ = .agg #[.int .i64 0, .int .i64 0, .int .u32 (g9 : Int), .int .u32 (t9 : Int)] from rfl] at he
        subst he
        have hal := (Below.refl w3.heap.size w3).alloc (Nat.le_refl _) (.cells #[.int .i64 0, .int .i64 0, .int .u32 (g9 : Int), .int .u32 (t9 : Int)] 92)
        have hA4 : HearAt w N Nd m st nb rb ⟨hf9, at_, gen, num⟩ u9 ts (w3.alloc (.cells #[.int .i64 0, .int .i64 0, .int .u32 (g9 : Int), .int .u32 (t9 : Int)] 92)) :=
          ⟨hA3.kept.below (hal.mono hA3.kept.size) hNl, (hal.block nb hnb3).trans hA3.nx, (hal.block rb (by omega)).trans hA3.rs, hA3.row.alloc _⟩
        have hP : (w3.alloc (.cells #[.int .i64 0, .int .i64 0, .int .u32 (g9 : Int), .int .u32 (t9 : Int)] 92)).heap[w3.heap.size]? = some (.cells #[.int .i64 0, .int .i64 0, .int .u32 (g9 : Int), .int .u32 (t9 : Int)] 92 (0, 0)) := heap_alloc_new w3 _
        have HA4 := Lib.hid hA4
        have HP := Lib.hid hP
        have hz3 := hA3.kept.size
        obtain ⟨n0, n1, n2, n3, nf⟩ := cells_four9 hA4.nx
        obtain ⟨r0, r1, r2, r3, rf⟩ := cells_four9 hA4.rs
        obtain ⟨m0, m1, m2, m3, mf⟩ := cells_four9 hP
        clear hal hA3 hA4 hP
        by_cases q1 : t9 = num
        · by_cases q2 : ts = [] ∨ g9 = gen
          · -- one more
            have hstep : hearL sumH (sz + 1) ss ⟨hf9, 0, 0, 0⟩ [] = hearL sumH f ss (plNext ⟨hf9, at_, g9, t9⟩ tx.length) (ts ++ [tx]) := by
              rw [heq.out, HS.out, hyes]
              exact if_pos ⟨q1, q2⟩
            obtain ⟨hroom, hlen9⟩ := read_room hyes
            rw [Hd.out.1] at hroom hlen9
            have HSt := Lib.hid hstep
            subst q1
            obtain ⟨ao, cap, hu9⟩ := row_slice HA4.out.row
            subst hu9
            clear hstep hyes HS heq
            by_cases hts : ts = []
            · subst hts
              go_upto_region 9 with fail
              generalize hw4 : w3.alloc (.cells #[.int .i64 0, .int .i64 0, .int .u32 (g9 : Int), .int .u32 (t9 : Int)] 92) = w4 at HA4 HP n0 n1 n2 n3 nf r0 r1 r2 r3 rf m0 m1 m2 m3 mf ⊢
              generalize hpb : w3.heap.size = pb at HP hz3 hnb3 m0 m1 m2 m3 mf ⊢
              have hz4 := HA4.out.kept.size
              have hpl4 : pb < w4.heap.size := (Array.getElem?_eq_some_iff.1 HP.out).1
              have hr2 := HA4.out.row.alloc (.cells #[.string (textQ tx)] 9)
              have Hr2 := Lib.hid hr2
              clear hr2 n0 n1 n2 n3 nf r0 r1 r2 r3 rf m0 m1 m2 m3 mf
              go_wp2_with (at_builtin; refine wpList_append_t rfl _ _ rfl w.heap.size _ [] tx rfl Hr2.out (by simp; omega) (by omega) w4.heap.size 1 rfl (by go_simp) ?_; intro v2 w6 hown2 ht2 hf2; have Hx := Lib.hid (And.intro hown2 (And.intro ht2 hf2)); clear hown2 ht2 hf2)
              have hA5 := HA4.out.below hNl ((Below.refl w4.heap.size w4).alloc (Nat.le_refl _) (.cells #[.string (textQ tx)] 9))
              have hA6 := hA5.more hNl Hx.out.2.1 Hx.out.1
              have hP6 : w6.heap[pb]? = some (.cells #[.int .i64 0, .int .i64 0, .int .u32 (g9 : Int), .int .u32 (t9 : Int)] 92 (0, 0)) := Hx.out.2.1.heap ((heap_oldX w4 _ hpl4).trans HP.out) (fun e => by
                obtain ⟨_, cur, hcur⟩ := row_block hA5.row e
                rw [(heap_oldX w4 _ hpl4).trans HP.out] at hcur
                simp at hcur)
              obtain ⟨n0, n1, n2, n3, nf⟩ := cells_four9 hA6.nx
              obtain ⟨m0, m1, m2, m3, mf⟩ := cells_four9 hP6
              have hnp : nb ≠ pb := by omega
              have HA6 := Lib.hid (And.intro hA6 hP6)
              clear hA5 hA6 hP6 Hr2
              go_region
              obtain ⟨hA6, hP6⟩ := HA6.out
              have t7 : Turned (fun b => b = pb) w6 ((w6.setCell ⟨pb, 0, none⟩ (.int .i64 (hf9 : Int))).setCell ⟨pb, 1, none⟩ (.int .i64 (at_ : Int))).drew := ((Turned.set (S := fun b => b = pb) rfl).trans (Turned.set (S := fun b => b = pb) rfl) (fun b hb => .inl hb)).trans (Turned.drew (S := fun b => b = pb)) (fun b hb => .inl hb)
              have hA7 := hA6.other hNl t7 hz3 hnp (by omega) hP6
              have hP7 : ((w6.setCell ⟨pb, 0, none⟩ (.int .i64 (hf9 : Int))).setCell ⟨pb, 1, none⟩ (.int .i64 (at_ : Int))).drew.heap[pb]? = some (.cells #[.int .i64 (hf9 : Int), .int .i64 (at_ : Int), .int .u32 (g9 : Int), .int .u32 (t9 : Int)] 92 (0, 0)) := set_block (j := 1) (set_block (j := 0) hP6)
              clear hA6 hP6 HA6 t7 m0 m1 m2 m3 mf n0 n1 n2 n3 nf
              generalize ((w6.setCell ⟨pb, 0, none⟩ (.int .i64 (hf9 : Int))).setCell ⟨pb, 1, none⟩ (.int .i64 (at_ : Int))).drew = w7 at hA7 hP7 ⊢
              obtain ⟨m0, m1, m2, m3, mf⟩ := cells_four9 hP7
              have hbh : Calls Tryz.prog 74 #[.agg #[.int .i64 (hf9 : Int), .int .i64 (at_ : Int), .int .u32 (g9 : Int), .int .u32 (t9 : Int)], .int .i64 (tx.length : Int)] w7 fun e w' => e = .returned (.agg #[.int .i64 (hf9 : Int), .int .i64 ((at_ + secN tx.length : Nat) : Int), .int .u32 (g9 : Int), .int .u32 ((t9 + 1 : Nat) : Int)]) ∧ Below w7.heap.size w7 w' := behind_any ⟨hf9, at_, g9, t9⟩ tx.length (by omega) (by show at_ ≤ _; omega) (by show t9 < _; omega) w7
              have HA7 := Lib.hid hA7
              clear hA7 hP7
              have htl : (textQ tx).size = tx.length := rfl
              go_wp2_with fail
              refine hbh.mono ?_
              rintro e w8 ⟨rfl, hb8⟩
              have hA8 := HA7.out.below hNl hb8
              obtain ⟨n0, n1, n2, n3, nf⟩ := cells_four9 hA8.nx
              have hA9 := hA8.next hNl (by omega) (by omega) ⟨hf9, at_ + secN tx.length, g9, t9 + 1⟩
              have HA9 := Lib.hid hA9
              have hsp := secN_pos tx.length
              have Hm9 := Lib.hid (cells_four9 hA9.nx).2.1
              clear hA8 hA9 hb8 hbh HA7 m0 m1 m2 m3 mf htl
              go_wp2_with fail
              go_roundw
              case rel => exact ⟨f, ⟨hf9, at_ + secN tx.length, g9, t9 + 1⟩, _, HA9.out, HSt, rfl, ⟨by show at_ + secN tx.length ≤ sz; omega, by show sz + 1 ≤ f + (at_ + secN tx.length); omega⟩, by show t9 + 1 ≤ at_ + secN tx.length; omega, by rw [List.length_append]; show _ ≤ at_ + secN tx.length; simp; omega, hgb⟩
              case measure =>
                have hm9 := Hm9.out
                push_cast at hm9
                rw [hm9, Hm1.out]
                simp [intOf]
                omega
            · have hpos : 0 < (ts.length : Int) := by
                have := List.length_pos_iff.2 hts
                omega
              replace q2 := q2.resolve_left hts
              subst q2
              go_upto_region 9 with fail
              generalize hw4 : w3.alloc (.cells #[.int .i64 0, .int .i64 0, .int .u32 (g9 : Int), .int .u32 (t9 : Int)] 92) = w4 at HA4 HP n0 n1 n2 n3 nf r0 r1 r2 r3 rf m0 m1 m2 m3 mf ⊢
              generalize hpb : w3.heap.size = pb at HP hz3 hnb3 m0 m1 m2 m3 mf ⊢
              have hz4 := HA4.out.kept.size
              have hpl4 : pb < w4.heap.size := (Array.getElem?_eq_some_iff.1 HP.out).1
              have hr2 := HA4.out.row.alloc (.cells #[.string (textQ tx)] 9)
              have Hr2 := Lib.hid hr2
              clear hr2 n0 n1 n2 n3 nf r0 r1 r2 r3 rf m0 m1 m2 m3 mf
              go_wp2_with (at_builtin; refine wpList_append_t rfl _ _ rfl w.heap.size _ ts tx rfl Hr2.out (by simp; omega) (by omega) w4.heap.size 1 rfl (by go_simp) ?_; intro v2 w6 hown2 ht2 hf2; have Hx := Lib.hid (And.intro hown2 (And.intro ht2 hf2)); clear hown2 ht2 hf2)
              have hA5 := HA4.out.below hNl ((Below.refl w4.heap.size w4).alloc (Nat.le_refl _) (.cells #[.string (textQ tx)] 9))
              have hA6 := hA5.more hNl Hx.out.2.1 Hx.out.1
              have hP6 : w6.heap[pb]? = some (.cells #[.int .i64 0, .int .i64 0, .int .u32 (g9 : Int), .int .u32 (t9 : Int)] 92 (0, 0)) := Hx.out.2.1.heap ((heap_oldX w4 _ hpl4).trans HP.out) (fun e => by
                obtain ⟨_, cur, hcur⟩ := row_block hA5.row e
                rw [(heap_oldX w4 _ hpl4).trans HP.out] at hcur
                simp at hcur)
              obtain ⟨n0, n1, n2, n3, nf⟩ := cells_four9 hA6.nx
              obtain ⟨m0, m1, m2, m3, mf⟩ := cells_four9 hP6
              have hnp : nb ≠ pb := by omega
              have HA6 := Lib.hid (And.intro hA6 hP6)
              clear hA5 hA6 hP6 Hr2
              go_region
              obtain ⟨hA6, hP6⟩ := HA6.out
              have t7 : Turned (fun b => b = pb) w6 ((w6.setCell ⟨pb, 0, none⟩ (.int .i64 (hf9 : Int))).setCell ⟨pb, 1, none⟩ (.int .i64 (at_ : Int))).drew := ((Turned.set (S := fun b => b = pb) rfl).trans (Turned.set (S := fun b => b = pb) rfl) (fun b hb => .inl hb)).trans (Turned.drew (S := fun b => b = pb)) (fun b hb => .inl hb)
              have hA7 := hA6.other hNl t7 hz3 hnp (by omega) hP6
              have hP7 : ((w6.setCell ⟨pb, 0, none⟩ (.int .i64 (hf9 : Int))).setCell ⟨pb, 1, none⟩ (.int .i64 (at_ : Int))).drew.heap[pb]? = some (.cells #[.int .i64 (hf9 : Int), .int .i64 (at_ : Int), .int .u32 (g9 : Int), .int .u32 (t9 : Int)] 92 (0, 0)) := set_block (j := 1) (set_block (j := 0) hP6)
              clear hA6 hP6 HA6 t7 m0 m1 m2 m3 mf n0 n1 n2 n3 nf
              generalize ((w6.setCell ⟨pb, 0, none⟩ (.int .i64 (hf9 : Int))).setCell ⟨pb, 1, none⟩ (.int .i64 (at_ : Int))).drew = w7 at hA7 hP7 ⊢
              obtain ⟨m0, m1, m2, m3, mf⟩ := cells_four9 hP7
              have hbh : Calls Tryz.prog 74 #[.agg #[.int .i64 (hf9 : Int), .int .i64 (at_ : Int), .int .u32 (g9 : Int), .int .u32 (t9 : Int)], .int .i64 (tx.length : Int)] w7 fun e w' => e = .returned (.agg #[.int .i64 (hf9 : Int), .int .i64 ((at_ + secN tx.length : Nat) : Int), .int .u32 (g9 : Int), .int .u32 ((t9 + 1 : Nat) : Int)]) ∧ Below w7.heap.size w7 w' := behind_any ⟨hf9, at_, g9, t9⟩ tx.length (by omega) (by show at_ ≤ _; omega) (by show t9 < _; omega) w7
              have HA7 := Lib.hid hA7
              clear hA7 hP7
              have htl : (textQ tx).size = tx.length := rfl
              go_wp2_with fail
              refine hbh.mono ?_
              rintro e w8 ⟨rfl, hb8⟩
              have hA8 := HA7.out.below hNl hb8
              obtain ⟨n0, n1, n2, n3, nf⟩ := cells_four9 hA8.nx
              have hA9 := hA8.next hNl (by omega) (by omega) ⟨hf9, at_ + secN tx.length, g9, t9 + 1⟩
              have HA9 := Lib.hid hA9
              have hsp := secN_pos tx.length
              have Hm9 := Lib.hid (cells_four9 hA9.nx).2.1
              clear hA8 hA9 hb8 hbh HA7 m0 m1 m2 m3 mf htl
              go_wp2_with fail
              go_roundw
              case rel => exact ⟨f, ⟨hf9, at_ + secN tx.length, g9, t9 + 1⟩, _, HA9.out, HSt, rfl, ⟨by show at_ + secN tx.length ≤ sz; omega, by show sz + 1 ≤ f + (at_ + secN tx.length); omega⟩, by show t9 + 1 ≤ at_ + secN tx.length; omega, by rw [List.length_append]; show _ ≤ at_ + secN tx.length; simp; omega, hgb⟩
              case measure =>
                have hm9 := Hm9.out
                push_cast at hm9
                rw [hm9, Hm1.out]
                simp [intOf]
                omega
          · have hfin : hearL sumH (sz + 1) ss ⟨hf9, 0, 0, 0⟩ [] = (ts, ⟨hf9, at_, gen, num⟩) := by
              rw [heq.out, HS.out, hyes]
              exact if_neg (fun e => q2 e.2)
            have HF := Lib.hid hfin
            have hts : 0 < (ts.length : Int) := by
              have : ts ≠ [] := fun e => q2 (.inl e)
              have := List.length_pos_iff.2 this
              omega
            have hg : ((g9 : Int) == (gen : Int)) = false := by
              rw [beq_eq_false_iff_ne]
              intro e
              exact q2 (.inr (by omega))
            subst q1
            obtain ⟨ao, cap, hu9⟩ := row_slice HA4.out.row
            subst hu9
            clear hfin q2 hyes HS
            go_wp2_with fail
            generalize w3.alloc (.cells #[.int .i64 0, .int .i64 0, .int .u32 (g9 : Int), .int .u32 (t9 : Int)] 92) = w4 at HA4 HP n0 n1 n2 n3 nf r0 r1 r2 r3 rf m0 m1 m2 m3 mf ⊢
            go_region
            have HZ := Lib.hid (HA4.out.fin (by omega) hNl (.int .i64 (hf9 : Int)) (.int .i64 (at_ : Int)) (.int .u32 (gen : Int)) (.int .u32 (t9 : Int)))
            go_wp2_with fail
            exact bodyPost_ret (v := .tuple #[.slice ao ts.length cap, plV ⟨hf9, at_, gen, t9⟩, .int .i64 0]) (by simp [results, Tryz.results46, go_sem, plV, plCells, r0, r1, r2, r3]) rfl ⟨HZ.out.1, .inr ⟨by first | rfl | trivial, _, by rw [HF.out], by rw [HF.out]; exact HZ.out.2⟩⟩
        · have hfin : hearL sumH (sz + 1) ss ⟨hf9, 0, 0, 0⟩ [] = (ts, ⟨hf9, at_, gen, num⟩) := by
            rw [heq.out, HS.out, hyes]
            exact if_neg (fun e => q1 e.1)
          have HF := Lib.hid hfin
          have hg : ((t9 : Int) == (num : Int)) = false := by
            rw [beq_eq_false_iff_ne]
            intro e
            exact q1 (by omega)
          clear hfin hyes HS
          go_wp2_with fail
          generalize w3.alloc (.cells #[.int .i64 0, .int .i64 0, .int .u32 (g9 : Int), .int .u32 (t9 : Int)] 92) = w4 at HA4 HP n0 n1 n2 n3 nf r0 r1 r2 r3 rf m0 m1 m2 m3 mf ⊢
          go_region
          have HZ := Lib.hid (HA4.out.fin (by omega) hNl (.int .i64 (hf9 : Int)) (.int .i64 (at_ : Int)) (.int .u32 (gen : Int)) (.int .u32 (num : Int)))
          go_wp2_with fail
          exact bodyPost_ret (v := .tuple #[u9, plV ⟨hf9, at_, gen, num⟩, .int .i64 0]) (by simp [results, Tryz.results46, go_sem, plV, plCells, r0, r1, r2, r3]) rfl ⟨HZ.out.1, .inr ⟨by first | rfl | trivial, _, by rw [HF.out], by rw [HF.out]; exact HZ.out.2⟩⟩
end Go.Proofs.YtgpdplffljidbaaGreatDoor
