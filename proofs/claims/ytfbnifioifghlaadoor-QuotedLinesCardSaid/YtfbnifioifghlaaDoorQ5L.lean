/-
  What quoted.putter's closure and quoted.tellLine come to: a sign put behind what was told, a line told.
-/
import Derived.Test.YtfbnifioifghlaaDoorQ5S
import Derived.Test.YtfbnifioifghlaaDoorQ5P
import Derived.Test.YtfbnifioifghlaaDoorBuildK
import Derived.RangeFuncBox
import Derived.RangeFuncNested
import Derived.RangeFuncBound
namespace Go.Proofs.YtfbnifioifghlaaDoor
open Go.RowKit

/-- All blocks but b, c and the bytes' own lie as they lay. -/
def KeptBut (b c : Nat) (w w' : World) : Prop := ∀ k o, w.heap[k]? = some o → k ≠ b → k ≠ c → (∀ x fz, o ≠ .cells x 5 fz) → w'.heap[k]? = some o
theorem KeptBut.refl (b c : Nat) (w : World) : KeptBut b c w w := fun _ _ h _ _ _ => h
theorem KeptBut.trans {b c : Nat} {u v w : World} (h : KeptBut b c u v) (k : KeptBut b c v w) : KeptBut b c u w := fun i o hi hb hc ho => k i o (h i o hi hb hc ho) hb hc ho
theorem KeptBut.of {b c : Nat} {w w' : World} (h : Lib.OthersKept 5 (some b) w w') : KeptBut b c w w' := fun k o hk hb _ ho => h k o hk (by simpa using hb) ho
theorem KeptBut.set {b c : Nat} {u w : World} (h : KeptBut b c u w) (v : Value) : KeptBut b c u (w.setCell ⟨c, 0, none⟩ v) := fun k o hk hb hc ho =>
  (Below.heap_setCell w ⟨c, 0, none⟩ v k hc).trans (h k o hk hb hc ho)
theorem KeptBut.box {b c B : Nat} {w w' : World} {t : TypeId} {v : Value} (h : KeptBut b c w w') (ht : t ≠ 5) (hb : B ≠ b) (hc : B ≠ c) (hx : Boxed w B t v) : Boxed w' B t v :=
  h B _ hx hb hc (fun x fz e => by cases e; exact ht rfl)
theorem kept_box {b B : Nat} {w w' : World} {t : TypeId} {v : Value} (h : Lib.OthersKept 5 (some b) w w') (ht : t ≠ 5) (hb : B ≠ b) (hx : Boxed w B t v) : Boxed w' B t v :=
  h B _ hx (by simpa using hb) (fun x fz e => by cases e; exact ht rfl)
/-- A builder abides a write into a box. -/
theorem builder_box {B b c : Nat} {p : Value} {bs : List Value} {W : World} {t : TypeId} (ht : t ≠ 5) (v : Value) (h : Lib.BuilderAt 39 5 B b p bs W) (hc : ∃ x, Boxed W c t x) : Lib.BuilderAt 39 5 B b p bs (W.setCell ⟨c, 0, none⟩ v) := by
  obtain ⟨x, hc⟩ := hc
  have hc : W.heap[c]? = some (.cells #[x] t (0, 0)) := hc
  obtain ⟨hB, u, hbk, hown, hne⟩ := h
  have hbc : b ≠ c := fun e => by
    rw [e, hc] at hbk
    simp at hbk
  refine ⟨hB, u, (Below.heap_setCell W ⟨c, 0, none⟩ v b hbc).trans hbk, hown.kept (grownBy_setCell' W c v) ?_, hne⟩
  rcases hown.2 with ⟨rfl, _⟩ | ⟨g, cap, cur, rfl, _, hgb, _⟩
  · exact .inl rfl
  · refine .inr fun e => ?_
    have e2 : c = g := by simpa [Value.ownBlock] using e.symm
    rw [← e2, hc] at hgb
    simp at hgb
    exact ht hgb.2
theorem builder_ne {B b c : Nat} {p x : Value} {bs : List Value} {W : World} {t : TypeId} (h : Lib.BuilderAt 39 5 B b p bs W) (hc : Boxed W c t x) : c ≠ b := fun e => by
  obtain ⟨_, v, hb, _⟩ := h
  have hc : W.heap[c]? = some (.cells #[x] t (0, 0)) := hc
  rw [e, hb] at hc
  simp at hc

set_option maxRecDepth 100000 in
set_option maxHeartbeats 2000000 in
theorem put_any (B b C D : Nat) (bs : List UInt8) (k : Nat) (x : ByteArray) (w : World) (h : Lib.BuilderAt 39 5 B b (.pointer (some ⟨b, 0, none⟩)) (Lib.byteCells bs) w)
    (hC : Boxed w C 3 (.int .i64 k)) (hD : Boxed w D 37 (.pointer (some ⟨b, 0, none⟩))) (hBC : B ≤ C) (hlen : bs.length + x.size + 3 ≤ 1000000000) (hBw : B ≤ w.heap.size) (hk : k ≤ 1000) (hx : x.size ≤ 1000) :
    Calls Tryd.prog 31 #[.string x, .pointer (some ⟨C, 0, none⟩), .pointer (some ⟨D, 0, none⟩)] w fun e w' => e = .returned (.tuple #[]) ∧
      (Lib.BuilderAt 39 5 B b (.pointer (some ⟨b, 0, none⟩)) (Lib.byteCells (bs ++ addQ k x.data.toList)) w' ∧ Boxed w' C 3 (.int .i64 (roomQ k x.data.toList : Nat)) ∧ Boxed w' D 37 (.pointer (some ⟨b, 0, none⟩)) ∧ Below B w w' ∧ KeptBut b C w w') := by
  have hxl : x.data.toList.length = x.size := rfl
  have nC := builder_ne h hC
  have nD := builder_ne h hD
  have nCD : D ≠ C := fun e => by
    rw [e] at hD
    have hD : w.heap[C]? = some (.cells #[_] 37 (0, 0)) := hD
    have hC : w.heap[C]? = some (.cells #[_] 3 (0, 0)) := hC
    rw [hC] at hD
    simp at hD
  have c1 := hC.cell
  have c2 := hD.cell
  have f1 := hC.frozen
  have HC := Lib.hid hC
  have HD := Lib.hid hD
  by_cases hw : 75 < k + x.size
  · have e1 : addQ k x.data.toList = [61, 13, 10] ++ x.data.toList := by unfold addQ; rw [hxl, if_pos hw]
    have e2 : roomQ k x.data.toList = x.size := by unfold roomQ; rw [hxl, if_pos hw]
    have hb1 := bwrite_k B b (Lib.byteCells bs) ⟨#[61, 13, 10]⟩ w h (by rw [Lib.byteCells_length]; show _ + 3 ≤ _; omega) hBw
    rw [show Lib.byteCells bs ++ Lib.strCells ⟨#[61, 13, 10]⟩ = Lib.byteCells (bs ++ [61, 13, 10]) by rw [Lib.byteCells_append]; rfl] at hb1
    rw [e1, e2, ← List.append_assoc]
    clear e1 e2 hxl hC hD
    go_enter Tryd.func31, Tryd.ntmps31
    go_wp2_with (go_at_call 20; refine hb1.mono ?_)
    rintro e w2 ⟨rfl, hbd, hbe, hoth, hsz⟩
    have hC2 := kept_box hoth (by decide) nC HC.out
    have hD2 := kept_box hoth (by decide) nD HD.out
    have c3 := hC2.cell
    have f3 := hC2.frozen
    have hD3 : Boxed (w2.setCell ⟨C, 0, none⟩ (.int .i64 0)) D 37 (.pointer (some ⟨b, 0, none⟩)) := hD2.other nCD _
    have hC3 : Boxed (w2.setCell ⟨C, 0, none⟩ (.int .i64 0)) C 3 (.int .i64 0) := hC2.set _
    have c4 := hD3.cell
    have hbd3 := builder_box (t := 3) (by decide) (.int .i64 0) hbd ⟨_, hC2⟩
    have hb2 := bwrite_k B b (Lib.byteCells (bs ++ [61, 13, 10])) x _ hbd3 (by rw [Lib.byteCells_length, List.length_append]; show _ + 3 + _ ≤ _; omega) (by rw [show (w2.setCell ⟨C, 0, none⟩ (.int .i64 0)).heap.size = w2.heap.size by simp [World.setCell]]; omega)
    rw [show Lib.byteCells (bs ++ [61, 13, 10]) ++ Lib.strCells x = Lib.byteCells (bs ++ [61, 13, 10] ++ x.data.toList) by rw [Lib.byteCells_append (bs ++ _)]; rfl] at hb2
    have HC3 := Lib.hid hC3
    have HD3 := Lib.hid hD3
    have K2 := Lib.hid ((KeptBut.of (c := C) hoth).set (.int .i64 0))
    have L2 := Lib.hid (hbe.setCell (p := ⟨C, 0, none⟩) hBC (.int .i64 0))
    clear hC2 hD2 hD3 hC3 hbd hbd3 hoth hbe hb1
    go_wp2_with (go_at_call 20; refine hb2.mono ?_)
    rintro e w4 ⟨rfl, hbd4, hbe4, hoth4, hsz4⟩
    have hC4 := kept_box hoth4 (by decide) nC HC3.out
    have hD4 := kept_box hoth4 (by decide) nD HD3.out
    have c5 := hC4.cell
    have f5 := hC4.frozen
    have HC4 := Lib.hid hC4
    have HD4 := Lib.hid hD4
    have K4 := Lib.hid ((K2.out.trans (KeptBut.of (c := C) hoth4)).set (.int .i64 x.size))
    have L4 := Lib.hid ((L2.out.trans hbe4).setCell (p := ⟨C, 0, none⟩) hBC (.int .i64 x.size))
    have B4 := Lib.hid (builder_box (t := 3) (by decide) (.int .i64 x.size) hbd4 ⟨_, hC4⟩)
    clear hC4 hD4 hbd4 hbe4 hoth4 hb2
    go_wp2
    go_end0
    exact ⟨rfl, B4.out, HC4.out.set _, HD4.out.other nCD _, L4.out, K4.out⟩
  · have e1 : addQ k x.data.toList = x.data.toList := by unfold addQ; rw [hxl, if_neg hw]
    have e2 : roomQ k x.data.toList = k + x.size := by unfold roomQ; rw [hxl, if_neg hw]
    have hb2 := bwrite_k B b (Lib.byteCells bs) x w h (by rw [Lib.byteCells_length]; omega) hBw
    rw [show Lib.byteCells bs ++ Lib.strCells x = Lib.byteCells (bs ++ x.data.toList) by rw [Lib.byteCells_append]; rfl] at hb2
    rw [e1, e2]
    clear e1 e2 hxl hC hD
    go_enter Tryd.func31, Tryd.ntmps31
    go_wp2_with (go_at_call 20; refine hb2.mono ?_)
    rintro e w4 ⟨rfl, hbd4, hbe4, hoth4, hsz4⟩
    have hC4 := kept_box hoth4 (by decide) nC HC.out
    have hD4 := kept_box hoth4 (by decide) nD HD.out
    have c5 := hC4.cell
    have f5 := hC4.frozen
    have HC4 := Lib.hid hC4
    have HD4 := Lib.hid hD4
    have K4 := Lib.hid ((KeptBut.of (c := C) hoth4).set (.int .i64 ((k : Int) + x.size)))
    have L4 := Lib.hid (hbe4.setCell (p := ⟨C, 0, none⟩) hBC (.int .i64 ((k : Int) + x.size)))
    have B4 := Lib.hid (builder_box (t := 3) (by decide) (.int .i64 ((k : Int) + x.size)) hbd4 ⟨_, hC4⟩)
    clear hC4 hD4 hbd4 hbe4 hoth4 hb2
    go_wp2
    go_end0
    exact ⟨rfl, B4.out, by push_cast; exact HC4.out.set _, HD4.out.other nCD _, L4.out, K4.out⟩

theorem heap_lt {w : World} {k : Nat} {o : Obj} (h : w.heap[k]? = some o) : k < w.heap.size := (Array.getElem?_eq_some_iff.1 h).1
/-- What lies as it lay is the same builder, the same box. -/
theorem builder_below {B b : Nat} {p : Value} {bs : List Value} {w w' : World} (h : Lib.BuilderAt 39 5 B b p bs w) (hb : Below w.heap.size w w') : Lib.BuilderAt 39 5 B b p bs w' := by
  obtain ⟨hB, v, hbk, ⟨hl, hown⟩, hne⟩ := h
  refine ⟨hB, v, (hb.block b (heap_lt hbk)).trans hbk, ⟨hl, ?_⟩, hne⟩
  rcases hown with h | ⟨g, cap, cur, hv, hg, hh, r⟩
  · exact .inl h
  · exact .inr ⟨g, cap, cur, hv, hg, (hb.block g (heap_lt hh)).trans hh, r⟩
theorem boxed_below {B : Nat} {t : TypeId} {v : Value} {w w' : World} (h : Boxed w B t v) (hb : Below w.heap.size w w') : Boxed w' B t v := (hb.block B h.lt).trans h
theorem kept_below {b c : Nat} {w w' : World} (hb : Below w.heap.size w w') : KeptBut b c w w' := fun k _ hk _ _ _ => (hb.block k (heap_lt hk)).trans hk

set_option maxRecDepth 100000 in
set_option maxHeartbeats 2000000 in
theorem tell_any (B b C D : Nat) (bs : List UInt8) (s : ByteArray) (w : World) (h : Lib.BuilderAt 39 5 B b (.pointer (some ⟨b, 0, none⟩)) (Lib.byteCells bs) w)
    (hC : Boxed w C 3 (.int .i64 0)) (hD : Boxed w D 37 (.pointer (some ⟨b, 0, none⟩))) (hBC : B ≤ C) (hlen : bs.length + (tellQ 0 s.data.toList).length ≤ 100000000) (hBw : B ≤ w.heap.size) (hs : s.size ≤ 100000000) :
    Calls Tryd.prog 21 #[.string s, .func (.func 31) #[] #[.pointer (some ⟨C, 0, none⟩), .pointer (some ⟨D, 0, none⟩)]] w fun e w' => e = .returned (.tuple #[]) ∧
      (Lib.BuilderAt 39 5 B b (.pointer (some ⟨b, 0, none⟩)) (Lib.byteCells (bs ++ tellQ 0 s.data.toList)) w' ∧ Below B w w' ∧ KeptBut b C w w') := by
  have hsl : s.data.toList.length = s.size := rfl
  have hk0 := KeptBut.refl b C w
  have hb0 := Below.refl B w
  have Hsl := Lib.hid hsl
  have Hlen := Lib.hid hlen
  clear hsl hlen
  go_enter Tryd.func21, Tryd.ntmps21
  go_wp2
  go_loopw [4, 7] (fun _ kv wr => ∃ (i n : Nat) (done : List UInt8), i ≤ s.size ∧ kv = .int .i64 i ∧ n ≤ 75 ∧ tellQ 0 s.data.toList = done ++ tellQ n (s.data.toList.drop i) ∧
      Lib.BuilderAt 39 5 B b (.pointer (some ⟨b, 0, none⟩)) (Lib.byteCells (bs ++ done)) wr ∧ Boxed wr C 3 (.int .i64 n) ∧ Boxed wr D 37 (.pointer (some ⟨b, 0, none⟩)) ∧ Below B w wr ∧ KeptBut b C w wr) (fun _ kv _ => s.size - (intOf kv).toNat)
  case atStart => exact ⟨0, 0, [], Nat.zero_le _, rfl, by omega, rfl, by rw [List.append_nil]; exact h, hC, hD, hb0, hk0⟩
  case round =>
    obtain ⟨i, n, done, hi, rfl, hn, hst, hbd, hCr, hDr, hbr, hkr⟩ := hrel
    by_cases hlt : i < s.size
    · have hdr : s.data.toList.drop i = s[i] :: s.data.toList.drop (i + 1) := by
        rw [List.drop_eq_getElem_cons (by rw [Hsl.out]; exact hlt)]
        rfl
      rw [hdr, tell_cons] at hst
      obtain ⟨last, hlast⟩ : ∃ last, decide (s.data.toList.drop (i + 1) = []) = last := ⟨_, rfl⟩
      have hq : ((i : Int) == (s.size : Int) - 1) = last := by
        rw [← hlast, Bool.eq_iff_iff, beq_iff_eq, decide_eq_true_eq, List.drop_eq_nil_iff, Hsl.out]
        omega
      rw [hlast] at hst
      obtain ⟨x, hx⟩ : ∃ x : ByteArray, (⟨(signB s[i] last).toArray⟩ : ByteArray) = x := ⟨_, rfl⟩
      have hxl : x.data.toList = signB s[i] last := by rw [← hx]
      have hxs : x.size ≤ 3 := by
        have e : x.size = (signB s[i] last).length := by rw [← hx]; rfl
        rcases sign_len s[i] last with h | h <;> omega
      have hsg := q4sign_any s[i] last
      rw [hx] at hsg
      rw [← hxl] at hst
      have hll := Hlen.out
      have hal := add_len n x.data.toList
      have hrm : roomQ n x.data.toList ≤ 75 := room_le (by rw [show x.data.toList.length = x.size from rfl]; exact hxs)
      rw [hst] at hll
      simp only [List.length_append] at hll
      have hdl : (bs ++ done).length + x.size + 3 ≤ 1000000000 := by simp only [List.length_append]; omega
      have Hst : Hid (tellQ 0 s.data.toList = (done ++ addQ n x.data.toList) ++ tellQ (roomQ n x.data.toList) (s.data.toList.drop (i + 1))) := Lib.hid (by rw [hst, List.append_assoc])
      have Hrm := Lib.hid hrm
      have hbz := hbr.size
      clear hst hll hal hxl hx hdr hlast hrm
      go_wp2_with (go_at_call 14; refine (hsg _).mono ?_)
      rintro e w2 ⟨rfl, hb2⟩
      have hput := put_any B b C D (bs ++ done) n x w2 (builder_below hbd hb2) (boxed_below hCr hb2) (boxed_below hDr hb2) hBC hdl (by have := hb2.size; omega) (by omega) (by omega)
      have Hb2 := Lib.hid (hbr.trans (hb2.mono (by omega)))
      have Hk2 := Lib.hid (hkr.trans (kept_below (b := b) (c := C) hb2))
      clear hsg hb2 hbd hCr hDr
      go_wp2_with (go_at_call 31; refine hput.mono ?_)
      rintro e w3 ⟨rfl, hbd3, hC3, hD3, hb3, hk3⟩
      go_wp2
      exact ⟨⟨i + 1, _, _, by omega, by go_num, Hrm.out, Hst.out, by rw [← List.append_assoc]; exact hbd3, hC3, hD3, Hb2.out.trans hb3, Hk2.out.trans hk3⟩, by simp [intOf]; omega⟩
    · have hnil : s.data.toList.drop i = [] := List.drop_eq_nil_of_le (by rw [Hsl.out]; omega)
      rw [hnil, tellQ, List.append_nil] at hst
      rw [← hst] at hbd
      clear hnil hst
      go_wp2
      go_end0
      exact ⟨rfl, hbd, hbr, hkr⟩

set_option maxRecDepth 100000 in
theorem putter_any (b : Nat) (w : World) : Calls Tryd.prog 22 #[.pointer (some ⟨b, 0, none⟩)] w fun e w' =>
    e = .returned (.func (.func 31) #[] #[.pointer (some ⟨w.heap.size + 1, 0, none⟩), .pointer (some ⟨w.heap.size, 0, none⟩)]) ∧
    w' = (w.alloc (.cells #[.pointer (some ⟨b, 0, none⟩)] 37)).alloc (.cells #[.int .i64 0] 3) := by
  have hmf : ∀ (fn : Fn) (first cap : Array Value) (w : World), (Instr.makeFunc fn first cap).run Tryd.prog w = .ok (.func fn first cap) w := fun _ _ _ _ => rfl
  go_enter Tryd.func22, Tryd.ntmps22
  go_wp2
  go_ret
  exact ⟨rfl, rfl⟩
end Go.Proofs.YtfbnifioifghlaaDoor
