/-
  Texts of this proof, put together: SplitS, Q5S, Q5L, Q5E.
-/
import Derived.Test.YtidlpdiephlkhaaGreatDoorRows
import Derived.WalkKit
import Derived.WalkSpells
import Derived.WalkLawsBesides
import Derived.Test.YtidlpdiephlkhaaGreatDoorT02
import Derived.Deep.QuietTactic
import Derived.Deep.RegionWith
import Derived.Laws.BitsLemmas
import Derived.Test.YtidlpdiephlkhaaGreatDoorT03
import Derived.Test.YtidlpdiephlkhaaGreatDoorT04
import Derived.RangeFuncBox
import Derived.RangeFuncNested
import Derived.RangeFuncBound
import Derived.Test.YtidlpdiephlkhaaGreatDoorT23
namespace Go.Proofs.YtidlpdiephlkhaaGreatDoor
open Go.RowKit

set_option maxRecDepth 100000 in
theorem splitSeq_anyQ (s sep : ByteArray) (w : World) : Calls Tryz.prog 49 #[.string s, .string sep] w fun e w' =>
    e = .returned (.func (.func 104) #[] #[.pointer (some ⟨w.heap.size + 1, 0, none⟩), .pointer (some ⟨w.heap.size, 0, none⟩), .pointer (some ⟨w.heap.size + 1 + 1, 0, none⟩)]) ∧
    w' = ((w.alloc (.cells #[.string s] 9)).alloc (.cells #[.string sep] 9)).alloc (.cells #[.int .i64 0] 3) := by
  have hmf : ∀ (fn : Fn) (first cap : Array Value) (w : World), (Instr.makeFunc fn first cap).run Tryz.prog w = .ok (.func fn first cap) w := fun _ _ _ _ => rfl
  go_enter Tryz.func49, Tryz.ntmps49
  go_wp2
  go_ret
  exact ⟨rfl, rfl⟩
end Go.Proofs.YtidlpdiephlkhaaGreatDoor
namespace Go.Proofs.YtidlpdiephlkhaaGreatDoor
open Go.RowKit

set_option maxRecDepth 100000 in
set_option maxHeartbeats 1600000 in
theorem stands_any (c : UInt8) (last : Bool) (w : World) : Calls Tryz.prog 107 #[.int .u8 (c.toNat : Int), .bool last] w fun e w' => e = .returned (.bool (plainQ c last)) ∧ w' = w := by
  have hcl : c.toNat < 256 := c.toNat_lt
  rcases (by omega : (33 ≤ c.toNat ∧ c.toNat ≤ 126 ∧ c.toNat ≠ 61) ∨ c.toNat = 61 ∨ c.toNat = 32 ∨ c.toNat = 9 ∨ (c.toNat < 33 ∧ c.toNat ≠ 32 ∧ c.toNat ≠ 9) ∨ 126 < c.toNat) with h | h | h | h | h | h
  · have f0 : ((c.toNat : Int) != 61) = true := by rw [bne_iff_ne]; omega
    have f1 : ((c.toNat : Int) == 32) = false := by rw [beq_eq_false_iff_ne]; omega
    have f2 : ((c.toNat : Int) == 9) = false := by rw [beq_eq_false_iff_ne]; omega
    have f3 : decide ((c.toNat : Int) > 32) = true := decide_eq_true (by omega)
    have f4 : decide ((c.toNat : Int) ≤ 126) = true := decide_eq_true (by omega)
    rw [show plainQ c last = true from plain_mid last (by omega) (by omega) (by omega)]
    clear h hcl
    go_enter Tryz.func107, Tryz.ntmps107
    go_wp2
    go_ret
    exact ⟨congrArg (fun b => Ending.returned (Value.bool b)) f0, rfl⟩
  · have f0 : ((c.toNat : Int) != 61) = false := by rw [bne_eq_false_iff_eq]; omega
    have f1 : ((c.toNat : Int) == 32) = false := by rw [beq_eq_false_iff_ne]; omega
    have f2 : ((c.toNat : Int) == 9) = false := by rw [beq_eq_false_iff_ne]; omega
    have f3 : decide ((c.toNat : Int) > 32) = true := decide_eq_true (by omega)
    have f4 : decide ((c.toNat : Int) ≤ 126) = true := decide_eq_true (by omega)
    rw [show plainQ c last = false from plain_no last (by omega)]
    clear h hcl
    go_enter Tryz.func107, Tryz.ntmps107
    go_wp2
    go_ret
    exact ⟨congrArg (fun b => Ending.returned (Value.bool b)) f0, rfl⟩
  · have f1 : ((c.toNat : Int) == 32) = true := by rw [beq_iff_eq]; omega
    rw [show plainQ c last = !last from plain_blank (by omega) last]
    clear h hcl
    go_enter Tryz.func107, Tryz.ntmps107
    go_wp2
    go_ret
    exact ⟨rfl, rfl⟩
  · have f1 : ((c.toNat : Int) == 32) = false := by rw [beq_eq_false_iff_ne]; omega
    have f2 : ((c.toNat : Int) == 9) = true := by rw [beq_iff_eq]; omega
    rw [show plainQ c last = !last from plain_blank (by omega) last]
    clear h hcl
    go_enter Tryz.func107, Tryz.ntmps107
    go_wp2
    go_ret
    exact ⟨rfl, rfl⟩
  · have f1 : ((c.toNat : Int) == 32) = false := by rw [beq_eq_false_iff_ne]; omega
    have f2 : ((c.toNat : Int) == 9) = false := by rw [beq_eq_false_iff_ne]; omega
    have f3 : decide ((c.toNat : Int) > 32) = false := decide_eq_false (by omega)
    rw [show plainQ c last = false from plain_no last (by omega)]
    clear h hcl
    go_enter Tryz.func107, Tryz.ntmps107
    go_wp2
    go_ret
    exact ⟨rfl, rfl⟩
  · have f1 : ((c.toNat : Int) == 32) = false := by rw [beq_eq_false_iff_ne]; omega
    have f2 : ((c.toNat : Int) == 9) = false := by rw [beq_eq_false_iff_ne]; omega
    have f3 : decide ((c.toNat : Int) > 32) = true := decide_eq_true (by omega)
    have f4 : decide ((c.toNat : Int) ≤ 126) = false := decide_eq_false (by omega)
    rw [show plainQ c last = false from plain_no last (by omega)]
    clear h hcl
    go_enter Tryz.func107, Tryz.ntmps107
    go_wp2
    go_ret
    exact ⟨rfl, rfl⟩

theorem wraps_u8 (n : Int) (h0 : 0 ≤ n) (h1 : n < 2 ^ 8) : IntKind.u8.wrap n = n := by rw [IntKind.wrap_u8]; omega
theorem mask15 (a : Nat) (ha : a < 256) : bits .and .u8 (a : Int) 15 = ((a % 16 : Nat) : Int) := by
  have := bits_mask .u8 8 (by decide) wraps_u8 4 (by decide) a (Int.natCast_nonneg _) (by exact_mod_cast ha)
  rw [show (2 : Int) ^ 4 - 1 = 15 from by decide] at this
  rw [this]
  push_cast
  rfl
theorem digits_fin : ∀ v : Fin 16, (⟨#[48, 49, 50, 51, 52, 53, 54, 55, 56, 57, 65, 66, 67, 68, 69, 70]⟩ : ByteArray)[v.val]'(v.isLt) = digB v.val := by decide +kernel
theorem digits_at (v : Nat) (h : v < 16) : (⟨#[48, 49, 50, 51, 52, 53, 54, 55, 56, 57, 65, 66, 67, 68, 69, 70]⟩ : ByteArray)[v]'(h) = digB v := digits_fin ⟨v, h⟩

theorem conv_two (a b : UInt8) (W : World) : (convert 67 9 (.slice (some ⟨W.heap.size, 0, none⟩) 2 2)).run Tryz.prog (W.alloc (.cells #[.int .u8 (a.toNat : Int), .int .u8 (b.toNat : Int)] 5)) = .ok (.string ⟨#[a, b]⟩) (W.alloc (.cells #[.int .u8 (a.toNat : Int), .int .u8 (b.toNat : Int)] 5)) := by
  have := run_convert_bytes_arg (P := Tryz.prog) (W.alloc (.cells #[.int .u8 (a.toNat : Int), .int .u8 (b.toNat : Int)] 5)) 67 5 Tryz.underlying67 Tryz.underlying5 W.heap.size 0 2 2 [(a.toNat : Int), (b.toNat : Int)] rfl (fun i hi => by
    rcases (by omega : i = 0 ∨ i = 1) with rfl | rfl <;> go_simp) 9 Tryz.underlying9
  rw [this]
  unfold strOfNums
  simp

set_option maxRecDepth 100000 in
set_option maxHeartbeats 1600000 in
theorem q4sign_any (c : UInt8) (last : Bool) (w : World) : Calls Tryz.prog 75 #[.int .u8 (c.toNat : Int), .bool last] w fun e w' => e = .returned (.string ⟨(signB c last).toArray⟩) ∧ Below w.heap.size w w' := by
  have hcl : c.toNat < 256 := c.toNat_lt
  have hbw := Below.refl w.heap.size w
  have v1 := conv_one c w
  have hst := stands_any c last
  cases hp : plainQ c last with
  | true =>
    rw [hp] at hst
    rw [sign_plain hp]
    clear hp
    go_enter Tryz.func75, Tryz.ntmps75
    go_wp2_with (go_at_call 107; refine (hst _).mono ?_; rintro e w2 ⟨rfl, rfl⟩)
    go_ret
    exact ⟨rfl, hbw.alloc (Nat.le_refl _) _⟩
  | false =>
    rw [hp] at hst
    rw [sign_coded hp]
    have m15 := mask15 c.toNat hcl
    have hx : c.toNat / 16 < 16 := by omega
    have hy : c.toNat % 16 < 16 := by omega
    have v2 := conv_two (digB (c.toNat / 16)) (digB (c.toNat % 16)) w.drew
    have v3 : (convert 67 9 (.slice (some ⟨w.heap.size, 0, none⟩) 2 2)).run Tryz.prog (w.alloc (.cells #[.int .u8 ((digB (c.toNat / 16)).toNat : Int), .int .u8 ((digB (c.toNat % 16)).toNat : Int)] 5)).drew = .ok (.string ⟨#[digB (c.toNat / 16), digB (c.toNat % 16)]⟩) (w.alloc (.cells #[.int .u8 ((digB (c.toNat / 16)).toNat : Int), .int .u8 ((digB (c.toNat % 16)).toNat : Int)] 5)).drew := v2
    have i1 : ((⟨#[48, 49, 50, 51, 52, 53, 54, 55, 56, 57, 65, 66, 67, 68, 69, 70]⟩ : ByteArray)[((c.toNat : Int) / 16).toNat]'(by show _ < 16; omega)).toNat = (digB (c.toNat / 16)).toNat := congrArg UInt8.toNat (digits_at (c.toNat / 16) hx)
    have i2 : ((⟨#[48, 49, 50, 51, 52, 53, 54, 55, 56, 57, 65, 66, 67, 68, 69, 70]⟩ : ByteArray)[((c.toNat : Int) % 16).toNat]'(by show _ < 16; omega)).toNat = (digB (c.toNat % 16)).toNat := congrArg UInt8.toNat (digits_at (c.toNat % 16) hy)
    clear hp
    go_enter Tryz.func75, Tryz.ntmps75
    go_wp2_with (go_at_call 107; refine (hst _).mono ?_; rintro e w2 ⟨rfl, rfl⟩)
    go_region_with (fail)
    all_goals
      (try go_wp2)
      go_ret
      exact ⟨rfl, (hbw.alloc (Nat.le_refl _) _).drew⟩
end Go.Proofs.YtidlpdiephlkhaaGreatDoor
namespace Go.Proofs.YtidlpdiephlkhaaGreatDoor
open Go.RowKit

set_option maxRecDepth 100000 in
set_option maxHeartbeats 2000000 in
theorem put_any (B b C D : Nat) (bs : List UInt8) (k : Nat) (x : ByteArray) (w : World) (h : Lib.BuilderAt 69 5 B b (.pointer (some ⟨b, 0, none⟩)) (Lib.byteCells bs) w)
    (hC : Boxed w C 3 (.int .i64 k)) (hD : Boxed w D 66 (.pointer (some ⟨b, 0, none⟩))) (hBC : B ≤ C) (hlen : bs.length + x.size + 3 ≤ 1000000000) (hBw : B ≤ w.heap.size) (hk : k ≤ 1000) (hx : x.size ≤ 1000) :
    Calls Tryz.prog 76 #[.string x, .pointer (some ⟨C, 0, none⟩), .pointer (some ⟨D, 0, none⟩)] w fun e w' => e = .returned (.tuple #[]) ∧
      (Lib.BuilderAt 69 5 B b (.pointer (some ⟨b, 0, none⟩)) (Lib.byteCells (bs ++ addQ k x.data.toList)) w' ∧ Boxed w' C 3 (.int .i64 (roomQ k x.data.toList : Nat)) ∧ Boxed w' D 66 (.pointer (some ⟨b, 0, none⟩)) ∧ Below B w w' ∧ KeptBut b C w w') := by
  have hxl : x.data.toList.length = x.size := rfl
  have nC := builder_ne h hC
  have nD := builder_ne h hD
  have nCD : D ≠ C := fun e => by
    rw [e] at hD
    have hD : w.heap[C]? = some (.cells #[_] 66 (0, 0)) := hD
    have hC : w.heap[C]? = some (.cells #[_] 3 (0, 0)) := hC
    rw [hC] at hD
    simp at hD
  have c1 := hC.cell
  have c2 := hD.cell
  have f1 := hC.frozen
  have HC := Lib.hid hC
  have HD := Lib.hid hD
  by_cases hw : 75 < k + x.size
  · have e1 : addQ k x.data.toList = [61, 13, 10] ++ x.data.toList := by unfold addQ; rw [hxl, if_pos hw]
    have e2 : roomQ k x.data.toList = x.size := by unfold roomQ; rw [hxl, if_pos hw]
    have hb1 := bwrite_k B b (Lib.byteCells bs) ⟨#[61, 13, 10]⟩ w h (by rw [Lib.byteCells_length]; show _ + 3 ≤ _; omega) hBw
    rw [show Lib.byteCells bs ++ Lib.strCells ⟨#[61, 13, 10]⟩ = Lib.byteCells (bs ++ [61, 13, 10]) by rw [Lib.byteCells_append]; rfl] at hb1
    rw [e1, e2, ← List.append_assoc]
    clear e1 e2 hxl hC hD
    go_enter Tryz.func76, Tryz.ntmps76
    go_wp2_with (go_at_call 47; refine hb1.mono ?_)
    rintro e w2 ⟨rfl, hbd, hbe, hoth, hsz⟩
    have hC2 := kept_box hoth (by decide) nC HC.out
    have hD2 := kept_box hoth (by decide) nD HD.out
    have c3 := hC2.cell
    have f3 := hC2.frozen
    have hD3 : Boxed (w2.setCell ⟨C, 0, none⟩ (.int .i64 0)) D 66 (.pointer (some ⟨b, 0, none⟩)) := hD2.other nCD _
    have hC3 : Boxed (w2.setCell ⟨C, 0, none⟩ (.int .i64 0)) C 3 (.int .i64 0) := hC2.set _
    have c4 := hD3.cell
    have hbd3 := builder_box (t := 3) (by decide) (.int .i64 0) hbd ⟨_, hC2⟩
    have hb2 := bwrite_k B b (Lib.byteCells (bs ++ [61, 13, 10])) x _ hbd3 (by rw [Lib.byteCells_length, List.length_append]; show _ + 3 + _ ≤ _; omega) (by rw [show (w2.setCell ⟨C, 0, none⟩ (.int .i64 0)).heap.size = w2.heap.size by simp [World.setCell]]; omega)
    rw [show Lib.byteCells (bs ++ [61, 13, 10]) ++ Lib.strCells x = Lib.byteCells (bs ++ [61, 13, 10] ++ x.data.toList) by rw [Lib.byteCells_append (bs ++ _)]; rfl] at hb2
    have HC3 := Lib.hid hC3
    have HD3 := Lib.hid hD3
    have K2 := Lib.hid ((KeptBut.of (c := C) hoth).set (.int .i64 0))
    have L2 := Lib.hid (hbe.setCell (p := ⟨C, 0, none⟩) hBC (.int .i64 0))
    clear hC2 hD2 hD3 hC3 hbd hbd3 hoth hbe hb1
    go_wp2_with (go_at_call 47; refine hb2.mono ?_)
    rintro e w4 ⟨rfl, hbd4, hbe4, hoth4, hsz4⟩
    have hC4 := kept_box hoth4 (by decide) nC HC3.out
    have hD4 := kept_box hoth4 (by decide) nD HD3.out
    have c5 := hC4.cell
    have f5 := hC4.frozen
    have HC4 := Lib.hid hC4
    have HD4 := Lib.hid hD4
    have K4 := Lib.hid ((K2.out.trans (KeptBut.of (c := C) hoth4)).set (.int .i64 x.size))
    have L4 := Lib.hid ((L2.out.trans hbe4).setCell (p := ⟨C, 0, none⟩) hBC (.int .i64 x.size))
    have B4 := Lib.hid (builder_box (t := 3) (by decide) (.int .i64 x.size) hbd4 ⟨_, hC4⟩)
    clear hC4 hD4 hbd4 hbe4 hoth4 hb2
    go_wp2
    go_end0
    exact ⟨rfl, B4.out, HC4.out.set _, HD4.out.other nCD _, L4.out, K4.out⟩
  · have e1 : addQ k x.data.toList = x.data.toList := by unfold addQ; rw [hxl, if_neg hw]
    have e2 : roomQ k x.data.toList = k + x.size := by unfold roomQ; rw [hxl, if_neg hw]
    have hb2 := bwrite_k B b (Lib.byteCells bs) x w h (by rw [Lib.byteCells_length]; omega) hBw
    rw [show Lib.byteCells bs ++ Lib.strCells x = Lib.byteCells (bs ++ x.data.toList) by rw [Lib.byteCells_append]; rfl] at hb2
    rw [e1, e2]
    clear e1 e2 hxl hC hD
    go_enter Tryz.func76, Tryz.ntmps76
    go_wp2_with (go_at_call 47; refine hb2.mono ?_)
    rintro e w4 ⟨rfl, hbd4, hbe4, hoth4, hsz4⟩
    have hC4 := kept_box hoth4 (by decide) nC HC.out
    have hD4 := kept_box hoth4 (by decide) nD HD.out
    have c5 := hC4.cell
    have f5 := hC4.frozen
    have HC4 := Lib.hid hC4
    have HD4 := Lib.hid hD4
    have K4 := Lib.hid ((KeptBut.of (c := C) hoth4).set (.int .i64 ((k : Int) + x.size)))
    have L4 := Lib.hid (hbe4.setCell (p := ⟨C, 0, none⟩) hBC (.int .i64 ((k : Int) + x.size)))
    have B4 := Lib.hid (builder_box (t := 3) (by decide) (.int .i64 ((k : Int) + x.size)) hbd4 ⟨_, hC4⟩)
    clear hC4 hD4 hbd4 hbe4 hoth4 hb2
    go_wp2
    go_end0
    exact ⟨rfl, B4.out, by push_cast; exact HC4.out.set _, HD4.out.other nCD _, L4.out, K4.out⟩

set_option maxRecDepth 100000 in
set_option maxHeartbeats 2000000 in
theorem tell_any (B b C D : Nat) (bs : List UInt8) (s : ByteArray) (w : World) (h : Lib.BuilderAt 69 5 B b (.pointer (some ⟨b, 0, none⟩)) (Lib.byteCells bs) w)
    (hC : Boxed w C 3 (.int .i64 0)) (hD : Boxed w D 66 (.pointer (some ⟨b, 0, none⟩))) (hBC : B ≤ C) (hlen : bs.length + (tellQ 0 s.data.toList).length ≤ 100000000) (hBw : B ≤ w.heap.size) (hs : s.size ≤ 100000000) :
    Calls Tryz.prog 50 #[.string s, .func (.func 76) #[] #[.pointer (some ⟨C, 0, none⟩), .pointer (some ⟨D, 0, none⟩)]] w fun e w' => e = .returned (.tuple #[]) ∧
      (Lib.BuilderAt 69 5 B b (.pointer (some ⟨b, 0, none⟩)) (Lib.byteCells (bs ++ tellQ 0 s.data.toList)) w' ∧ Below B w w' ∧ KeptBut b C w w') := by
  have hsl : s.data.toList.length = s.size := rfl
  have hk0 := KeptBut.refl b C w
  have hb0 := Below.refl B w
  have Hsl := Lib.hid hsl
  have Hlen := Lib.hid hlen
  clear hsl hlen
  go_enter Tryz.func50, Tryz.ntmps50
  go_wp2
  go_loopw [4, 7] (fun _ kv wr => ∃ (i n : Nat) (done : List UInt8), i ≤ s.size ∧ kv = .int .i64 i ∧ n ≤ 75 ∧ tellQ 0 s.data.toList = done ++ tellQ n (s.data.toList.drop i) ∧
      Lib.BuilderAt 69 5 B b (.pointer (some ⟨b, 0, none⟩)) (Lib.byteCells (bs ++ done)) wr ∧ Boxed wr C 3 (.int .i64 n) ∧ Boxed wr D 66 (.pointer (some ⟨b, 0, none⟩)) ∧ Below B w wr ∧ KeptBut b C w wr) (fun _ kv _ => s.size - (intOf kv).toNat)
  case atStart => exact ⟨0, 0, [], Nat.zero_le _, rfl, by omega, rfl, by rw [List.append_nil]; exact h, hC, hD, hb0, hk0⟩
  case round =>
    obtain ⟨i, n, done, hi, rfl, hn, hst, hbd, hCr, hDr, hbr, hkr⟩ := hrel
    by_cases hlt : i < s.size
    · have hdr : s.data.toList.drop i = s[i] :: s.data.toList.drop (i + 1) := by
        rw [List.drop_eq_getElem_cons (by rw [Hsl.out]; exact hlt)]
        rfl
      rw [hdr, tell_cons] at hst
      obtain ⟨last, hlast⟩ : ∃ last, decide (s.data.toList.drop (i + 1) = []) = last := ⟨_, rfl⟩
      have hq : ((i : Int) == (s.size : Int) - 1) = last := by
        rw [← hlast, Bool.eq_iff_iff, beq_iff_eq, decide_eq_true_eq, List.drop_eq_nil_iff, Hsl.out]
        omega
      rw [hlast] at hst
      obtain ⟨x, hx⟩ : ∃ x : ByteArray, (⟨(signB s[i] last).toArray⟩ : ByteArray) = x := ⟨_, rfl⟩
      have hxl : x.data.toList = signB s[i] last := by rw [← hx]
      have hxs : x.size ≤ 3 := by
        have e : x.size = (signB s[i] last).length := by rw [← hx]; rfl
        rcases sign_len s[i] last with h | h <;> omega
      have hsg := q4sign_any s[i] last
      rw [hx] at hsg
      rw [← hxl] at hst
      have hll := Hlen.out
      have hal := add_len n x.data.toList
      have hrm : roomQ n x.data.toList ≤ 75 := room_le (by rw [show x.data.toList.length = x.size from rfl]; exact hxs)
      rw [hst] at hll
      simp only [List.length_append] at hll
      have hdl : (bs ++ done).length + x.size + 3 ≤ 1000000000 := by simp only [List.length_append]; omega
      have Hst : Hid (tellQ 0 s.data.toList = (done ++ addQ n x.data.toList) ++ tellQ (roomQ n x.data.toList) (s.data.toList.drop (i + 1))) := Lib.hid (by rw [hst, List.append_assoc])
      have Hrm := Lib.hid hrm
      have hbz := hbr.size
      clear hst hll hal hxl hx hdr hlast hrm
      go_wp2_with (go_at_call 75; refine (hsg _).mono ?_)
      rintro e w2 ⟨rfl, hb2⟩
      have hput := put_any B b C D (bs ++ done) n x w2 (builder_below hbd hb2) (boxed_below hCr hb2) (boxed_below hDr hb2) hBC hdl (by have := hb2.size; omega) (by omega) (by omega)
      have Hb2 := Lib.hid (hbr.trans (hb2.mono (by omega)))
      have Hk2 := Lib.hid (hkr.trans (kept_below (b := b) (c := C) hb2))
      clear hsg hb2 hbd hCr hDr
      go_wp2_with (go_at_call 76; refine hput.mono ?_)
      rintro e w3 ⟨rfl, hbd3, hC3, hD3, hb3, hk3⟩
      go_wp2
      exact ⟨⟨i + 1, _, _, by omega, by go_num, Hrm.out, Hst.out, by rw [← List.append_assoc]; exact hbd3, hC3, hD3, Hb2.out.trans hb3, Hk2.out.trans hk3⟩, by simp [intOf]; omega⟩
    · have hnil : s.data.toList.drop i = [] := List.drop_eq_nil_of_le (by rw [Hsl.out]; omega)
      rw [hnil, tellQ, List.append_nil] at hst
      rw [← hst] at hbd
      clear hnil hst
      go_wp2
      go_end0
      exact ⟨rfl, hbd, hbr, hkr⟩

set_option maxRecDepth 100000 in
theorem putter_any (b : Nat) (w : World) : Calls Tryz.prog 51 #[.pointer (some ⟨b, 0, none⟩)] w fun e w' =>
    e = .returned (.func (.func 76) #[] #[.pointer (some ⟨w.heap.size + 1, 0, none⟩), .pointer (some ⟨w.heap.size, 0, none⟩)]) ∧
    w' = (w.alloc (.cells #[.pointer (some ⟨b, 0, none⟩)] 66)).alloc (.cells #[.int .i64 0] 3) := by
  have hmf : ∀ (fn : Fn) (first cap : Array Value) (w : World), (Instr.makeFunc fn first cap).run Tryz.prog w = .ok (.func fn first cap) w := fun _ _ _ _ => rfl
  go_enter Tryz.func51, Tryz.ntmps51
  go_wp2
  go_ret
  exact ⟨rfl, rfl⟩
end Go.Proofs.YtidlpdiephlkhaaGreatDoor
namespace Go.Proofs.YtidlpdiephlkhaaGreatDoor
open Go.RowKit Go.Shelf

attribute [local go_sem] Oper.semAt_some

/-- Room for a new builder. -/
theorem grow_newQ (n : Int) (h0 : 0 ≤ n) (h1 : n ≤ 281474976710656) (w : World) :
    Calls Tryz.prog 45 #[.pointer (some ⟨w.heap.size, 0, none⟩), .int .i64 n] (w.alloc (.cells #[.pointer none, .slice none 0 0] 69)) fun e w' => e = .returned (.tuple #[]) ∧ (Lib.BuilderAt 69 5 w.heap.size w.heap.size (.pointer (some ⟨w.heap.size, 0, none⟩)) [] w' ∧ Below w.heap.size w w') := by
  obtain ⟨m, rfl⟩ := Int.eq_ofNat_of_zero_le h0
  refine (Tryz.Builder_Grow_fresh w.heap.size w.heap.size m _ (Nat.le_refl _) (heap_alloc_new w _) (by simp) (by omega)).mono ?_
  rintro e w' ⟨he, hb, hw⟩
  exact ⟨he, hb, ((Below.refl _ w).alloc (Nat.le_refl _) _).trans hw⟩
/-- What lies in Encode's own blocks between two rounds: the builder in b, what stands between lines in k, the iterator's cells behind it. -/
def EncI (B b k : Nat) (w : World) (pre : List (List UInt8)) (W : World) : Prop :=
  Lib.BuilderAt 69 5 B b (.pointer (some ⟨b, 0, none⟩)) (Lib.byteCells (soFarQ pre)) W ∧ Boxed W k 9 (.string ⟨(betweenQ pre).toArray⟩) ∧ (∃ x, Boxed W (k + 1) 9 x) ∧ Boxed W (k + 1 + 1) 9 (.string ⟨#[13, 10]⟩) ∧ Boxed W (k + 1 + 1 + 1) 3 (.int .i64 0) ∧ Below B w W
def EncK (k : Nat) (A B : World) : Prop := ∀ b, b = 0 ∨ (k < b ∧ b < k + 4) → B.heap[b]? = A.heap[b]?
theorem EncI.own {B b k M : Nat} {w : World} (hB : B ≤ w.heap.size) (hM : B ≤ M) : OwnFrom M (EncI B b k w) := by
  rintro pre W W' row ⟨h1, h2, ⟨x, h3⟩, h4, h5, h6⟩ hg hr
  have hr' : ∀ r, row = some r → ∃ o : Obj, W.heap[r]? = some o ∧ o.isCells = false := fun r e => (hr r e).2
  exact ⟨builder_grown h1 hg hr', boxed_ownQ h2 hg hr', ⟨x, boxed_ownQ h3 hg hr'⟩, boxed_ownQ h4 hg hr', boxed_ownQ h5 hg hr', h6.grown hg (by have := h6.size; omega) fun k e => by have := (hr k e).1; omega⟩
theorem EncI.store {B b k : Nat} {w : World} (hk : B ≤ k + 1) (pre : List (List UInt8)) (A : World) (v : Value) : EncI B b k w pre A → EncI B b k w pre (A.setCell ⟨k + 1, 0, none⟩ v) := by
  rintro ⟨h1, h2, ⟨x, h3⟩, h4, h5, h6⟩
  exact ⟨builder_box (t := 9) (by decide) v h1 ⟨x, h3⟩, h2.other (by omega) v, ⟨v, h3.set v⟩, h4.other (by omega) v, h5.other (by omega) v, h6.setCell (p := ⟨k + 1, 0, none⟩) hk v⟩

set_option maxRecDepth 100000 in
set_option maxHeartbeats 2000000 in
theorem q4enc_any (s : ByteArray) (m : Int) (w : World) (hs : s.size ≤ 1000000) (hm : w.cell? ⟨0, 0, none⟩ = some (.int .i64 m)) :
    Calls Tryz.prog 25 #[.string s] w fun e w' => e = .returned (.string ⟨(encQ s.data.toList).toArray⟩) ∧ Below w.heap.size w w' := by
  have hl : s.data.toList.length = s.size := rfl
  refine (callsIn_wide (n := 8)).1 ?_
  refine callsIn_of_wp_marks Tryz.func25 rfl trivial ?_ rfl
  simp only [Tryz.ntmps25, List.size_toArray, List.length_cons, List.length_nil, Nat.reduceAdd, Nat.reduceSub, Array.replicate_succ, Array.replicate_zero, List.push_toArray, List.append_toArray, List.nil_append, List.cons_append]
  gi_wp2_with fail
  refine ⟨trivial, ?_⟩
  refine (callsIn_wide.2 (grow_newQ _ ?g0 ?g1 w)).mono ?_
  case g0 => omega
  case g1 => omega
  rintro e w1 ⟨rfl, hb1, hw1⟩
  have hz1 : w.heap.size < w1.heap.size := hb1.lt
  gi_wp2_with fail
  refine ⟨trivial, ?_⟩
  refine (callsIn_wide.2 (splitSeq_anyQ s _ _)).mono ?_
  rintro e w2 ⟨rfl, hw2⟩
  have hz2 : w2.heap.size = w1.heap.size + 4 := by rw [hw2]; simp
  have hb2 : Lib.BuilderAt 69 5 w.heap.size w.heap.size (.pointer (some ⟨w.heap.size, 0, none⟩)) (Lib.byteCells (soFarQ [])) w2 := by
    rw [hw2]
    exact builder_below hb1 (((((Below.refl _ _).alloc (Nat.le_refl _) _).alloc (by simp) _).alloc (by simp; omega) _).alloc (by simp; omega) _)
  have hbw2 : Below w.heap.size w w2 := by
    rw [hw2]
    exact (((hw1.alloc (by omega) _).alloc (by simp; omega) _).alloc (by simp; omega) _).alloc (by simp; omega) _
  have x0 : Boxed w2 w1.heap.size 9 (.string ⟨#[]⟩) := by rw [hw2]; exact (((Boxed.new _ _ _).alloc _).alloc _).alloc _
  have x1 : Boxed w2 (w1.heap.size + 1) 9 (.string s) := by
    rw [hw2]
    have := Boxed.new (w1.alloc (.cells #[.string ⟨#[]⟩] 9)) 9 (.string s)
    rw [World.size_alloc] at this
    exact (this.alloc _).alloc _
  have x2 : Boxed w2 (w1.heap.size + 1 + 1) 9 (.string ⟨#[13, 10]⟩) := by
    rw [hw2]
    have := Boxed.new ((w1.alloc (.cells #[.string ⟨#[]⟩] 9)).alloc (.cells #[.string s] 9)) 9 (.string ⟨#[13, 10]⟩)
    rw [World.size_alloc, World.size_alloc] at this
    exact this.alloc _
  have x3 : Boxed w2 (w1.heap.size + 1 + 1 + 1) 3 (.int .i64 0) := by
    rw [hw2]
    have := Boxed.new (((w1.alloc (.cells #[.string ⟨#[]⟩] 9)).alloc (.cells #[.string s] 9)).alloc (.cells #[.string ⟨#[13, 10]⟩] 9)) 3 (.int .i64 0)
    rw [World.size_alloc, World.size_alloc, World.size_alloc] at this
    exact this
  have hmb : (0 : Nat) + 0 < w.heap.size := by
    have := (show 0 < w.heap.size from by
      rcases Nat.lt_or_ge 0 w.heap.size with h | h
      · exact h
      · rw [World.cell?, Array.getElem?_eq_none h] at hm
        simp at hm)
    omega
  have hm2 : w2.cell? ⟨0, 0, none⟩ = some (.int .i64 m) := (hbw2.cell (p := ⟨0, 0, none⟩) (by simp; omega)).trans hm
  have Hl := Lib.hid hl
  have HK : Hid (EncI w.heap.size w.heap.size w1.heap.size w [] w2) := Lib.hid ⟨hb2, x0, ⟨_, x1⟩, x2, x3, hbw2⟩
  obtain ⟨k, hk⟩ : ∃ k, w1.heap.size = k := ⟨_, rfl⟩
  rw [hk] at hz1 hz2 x0 x1 x2 x3 HK
  have Hw2 := Lib.hid hw2
  clear hb1 hw1 hl hb2 hbw2 hw2
  gi_wp2
  clear Hw2 hk
  refine range_pre (n := 8) (by omega) (gf := 104) (lb := #[.pointer (some ⟨k + 1 + 1, 0, none⟩), .pointer (some ⟨k + 1, 0, none⟩), .pointer (some ⟨k + 1 + 1 + 1, 0, none⟩)]) rfl (enters_of Tryz.func104 (by kernel_rfl) rfl)
    (encs := fun x : List UInt8 => #[.string ⟨x.toArray⟩]) (R := fun pre x => ∃ rest, linesQ s.data.toList = pre ++ x :: rest) (K := EncK k) (S := fun ys => ys = linesQ s.data.toList) (Sp := fun pre => ∃ rest, linesQ s.data.toList = pre ++ rest) (bs := k + 1) (by omega) ?seq
    (fun h k b h1 => (k b h1).trans (h b h1)) (fun W l o' hl b h1 => World.putObj_heap_other (by omega)) (fun _ => rfl)
    (EncI w.heap.size w.heap.size k w) (fun _ _ _ => False) (EncI.own (Nat.le_refl _) (by omega)) (EncI.store (by omega)) (fun _ _ _ _ _ h => h.elim) HK.out
    (fun x => { tmps := #[.string s, undef, .string ⟨#[]⟩, .pointer (some ⟨w.heap.size, 0, none⟩), .pointer (some ⟨k, 0, none⟩), .string ⟨x.toArray⟩, .string s, .int .i64 s.size, .tuple #[], .string s,
      .func (.func 104) #[] #[.pointer (some ⟨k + 1 + 1, 0, none⟩), .pointer (some ⟨k + 1, 0, none⟩), .pointer (some ⟨k + 1 + 1 + 1, 0, none⟩)], .string ⟨x.toArray⟩, undef, undef, undef, undef, undef, undef], defers := [] }) ?assign ?body ?done ?stop
  case seq =>
    intro l J Jx W hW hJs hY h0
    refine CallsIn.mono (split_end_in 7 (by omega) l (k + 1) (k + 1 + 1) (k + 1 + 1 + 1) (by omega) s m linesQ (fun t h => lines_none h) (fun t i h => lines_some h) (fun pre A => J pre A ∧ A.cell? ⟨0, 0, none⟩ = some (.int .i64 m)) Jx
      (fun pre A v h => ⟨hJs pre A v h.1, by rw [World.cell?_setCell_other _ _ _ _ (by intro e; injection e with e; omega)]; exact h.2⟩) (fun pre A h => h.2) ?_ W
      ((hW.cell (p := ⟨k + 1, 0, none⟩) (by simp; omega)).trans x1.cell) ((hW.frozen (p := ⟨k + 1, 0, none⟩) (by simp; omega)).trans x1.frozen)
      ((hW.cell (p := ⟨k + 1 + 1, 0, none⟩) (by simp; omega)).trans x2.cell) ((hW.cell (p := ⟨k + 1 + 1 + 1, 0, none⟩) (by simp; omega)).trans x3.cell) (by omega) ⟨h0, ?_⟩) ?_
    · rintro pre x W1 ⟨hj, hj2⟩ hx
      refine YieldAt.mono (hY pre x W1 hj hx) ?_
      rintro e W' (⟨he, hj', hk'⟩ | h)
      · exact .inl ⟨he, ⟨hj', (World.cell?_of_block (hk' _ (.inl rfl))).trans hj2⟩, fun b hb => hk' b (by omega)⟩
      · exact .inr h
    · exact (hW.cell (p := ⟨0, 0, none⟩) (by simp; omega)).trans hm2
    · rintro e W' ⟨he, (⟨ys, h1, h2, _⟩ | h)⟩
      · exact ⟨he, .inl ⟨ys, h1, h2⟩⟩
      · exact ⟨he, .inr h⟩
  case assign =>
    intro l x W C hC
    gi_wp2
    exact hC
  case body =>
    rintro l pre x W ⟨h1, h2, ⟨y, h3⟩, h4, h5, h6⟩ ⟨rest, hx⟩
    have hln := soFar_len hx
    rw [Hl.out] at hln
    have hsn := soFar_snoc pre x
    have hbl : (Lib.byteCells (soFarQ pre)).length = (soFarQ pre).length := Lib.byteCells_length _
    obtain ⟨X, hX⟩ : ∃ X : ByteArray, (⟨x.toArray⟩ : ByteArray) = X := ⟨_, rfl⟩
    obtain ⟨Y, hY⟩ : ∃ Y : ByteArray, (⟨(betweenQ pre).toArray⟩ : ByteArray) = Y := ⟨_, rfl⟩
    have hXl : X.data.toList = x := by rw [← hX]
    have hYl : Y.data.toList = betweenQ pre := by rw [← hY]
    have hYs : Y.size = (betweenQ pre).length := by rw [← hY]; rfl
    have hXs : X.size ≤ (tellQ 0 x).length := by
      have e : X.size = x.length := by rw [← hX]; rfl
      have := tell_ge x 0
      omega
    rw [hX]
    rw [hY] at h2
    have n1 := builder_ne h1 h2
    have n2 := builder_ne h1 h3
    have n3 := builder_ne h1 h4
    have n4 := builder_ne h1 h5
    have c0 := h2.cell
    have hsz := h6.size
    have hw1 := bwrite_k w.heap.size w.heap.size _ Y W h1 (by omega) hsz
    rw [show Lib.byteCells (soFarQ pre) ++ Lib.strCells Y = Lib.byteCells (soFarQ pre ++ betweenQ pre) by rw [← hYl, Lib.byteCells_append]; rfl] at hw1
    rw [← hXl] at hsn
    have Hsn := Lib.hid hsn
    have hl2 : (soFarQ pre ++ betweenQ pre).length + (tellQ 0 X.data.toList).length ≤ 100000000 := by rw [hXl, List.length_append]; omega
    have Hl2 := Lib.hid hl2
    have hX8 : X.size ≤ 100000000 := by omega
    have H1 := Lib.hid h1
    have H2 := Lib.hid h2
    have H3 := Lib.hid h3
    have H4 := Lib.hid h4
    have H5 := Lib.hid h5
    have H6 := Lib.hid h6
    clear hln hsn hbl hX hY hYl hYs hXs hl2 hx h1 h2 h3 h4 h5 h6
    gi_wp2_with fail
    refine ⟨trivial, ?_⟩
    refine (CallsIn.inRound l (callsIn_wide.2 hw1)).mono ?_
    rintro e W2 ⟨rfl, hb2, hbe2, ho2, hz2'⟩
    clear hw1
    gi_wp2_with fail
    refine ⟨trivial, ?_⟩
    refine (CallsIn.inRound l (callsIn_wide.2 (putter_any w.heap.size W2))).mono ?_
    rintro e W3 ⟨rfl, hW3⟩
    have b3 : Below W2.heap.size W2 W3 := by rw [hW3]; exact ((Below.refl _ _).alloc (Nat.le_refl _) _).alloc (by simp) _
    have z3 : W3.heap.size = W2.heap.size + 2 := by rw [hW3]; simp
    have hD3 : Boxed W3 W2.heap.size 66 (.pointer (some ⟨w.heap.size, 0, none⟩)) := by rw [hW3]; exact (Boxed.new _ _ _).alloc _
    have hC3 : Boxed W3 (W2.heap.size + 1) 3 (.int .i64 0) := by
      rw [hW3]
      have := Boxed.new (W2.alloc (.cells #[.pointer (some ⟨w.heap.size, 0, none⟩)] 66)) 3 (.int .i64 0)
      rw [World.size_alloc] at this
      exact this
    have ht := tell_any w.heap.size w.heap.size (W2.heap.size + 1) W2.heap.size _ X W3 (builder_below hb2 b3) hC3 hD3 (by omega) Hl2.out (by omega) hX8
    have K3 := Lib.hid ((KeptBut.of (c := W2.heap.size + 1) ho2).trans (kept_below (b := w.heap.size) (c := W2.heap.size + 1) b3))
    have B3 := Lib.hid (hbe2.trans (b3.mono (by omega)))
    have hzz : W.heap.size ≤ W3.heap.size := by omega
    have hne : ∀ q, q < W.heap.size → q ≠ W2.heap.size + 1 := fun q hq => by omega
    have Hne := Lib.hid hne
    have Hcl := Lib.hid hb2
    clear hW3 b3 hD3 hC3 hb2 ho2 hbe2 hne
    gi_wp2_with fail
    refine ⟨trivial, ?_⟩
    refine (CallsIn.inRound l (callsIn_wide.2 ht)).mono ?_
    rintro e W4 ⟨rfl, hb4, hbe4, hk4⟩
    have K4 := K3.out.trans hk4
    have Hz4 := Lib.hid (Nat.le_trans hzz hbe4.size)
    have g2 := K4.box (by decide) n1 (Hne.out _ H2.out.lt) H2.out
    have g3 := K4.box (by decide) n2 (Hne.out _ H3.out.lt) H3.out
    have g4 := K4.box (by decide) n3 (Hne.out _ H4.out.lt) H4.out
    have g5 := K4.box (by decide) n4 (Hne.out _ H5.out.lt) H5.out
    have c4 := g2.cell
    have f4 := g2.frozen
    rw [← Hsn.out] at hb4
    have hB6 := (H6.out.trans B3.out).trans hbe4
    have HG := Lib.hid (And.intro g2 (And.intro g3 (And.intro g4 (And.intro g5 (And.intro hb4 (And.intro hB6 K4))))))
    clear g2 g3 g4 g5 hb4 hB6 K4 ht hk4 hbe4
    have hcells : ∃ cs T fz, W.heap[w.heap.size]? = some (.cells cs T fz) := by
      obtain ⟨_, v, hb, _⟩ := H1.out
      exact ⟨_, _, _, hb⟩
    gi_wp2
    obtain ⟨g2, g3, g4, g5, hb4, hB6, K4⟩ := HG.out
    have hbq : betweenQ (pre ++ [x]) = [13, 10] := by unfold betweenQ; rw [if_neg (by simp)]
    have hkeep : KeepsOthers W W4 := ⟨Hz4.out, fun q o hq ho => K4 q o hq (fun e => by
      obtain ⟨cs, T, fz, hc⟩ := hcells
      rw [e, hc] at hq
      cases hq
      cases ho) (Hne.out q (heap_lt hq)) (fun c fz e => by subst e; cases ho)⟩
    refine ⟨hkeep.trans (KeepsOthers.setCell _ _ _), fun q hq => ?_, builder_box (t := 9) (by decide) _ (by rw [← hXl]; exact hb4) ⟨_, g2⟩, by rw [hbq]; exact g2.set _, ⟨_, g3.other (by omega) _⟩, g4.other (by omega) _, g5.other (by omega) _, hB6.setCell (p := ⟨k, 0, none⟩) (by simp; omega) _⟩
    rw [Below.heap_setCell _ _ _ _ (by rcases hq with rfl | hq <;> simp <;> omega)]
    rcases hq with rfl | hq
    · have a1 := hB6.block 0 (by omega)
      have a2 := H6.out.block 0 (by omega)
      exact a1.trans a2.symm
    · rcases (by omega : q = k + 1 ∨ q = k + 1 + 1 ∨ q = k + 1 + 1 + 1) with rfl | rfl | rfl
      · exact Eq.trans (show W4.heap[k + 1]? = _ from g3) (show W.heap[k + 1]? = _ from H3.out).symm
      · exact Eq.trans (show W4.heap[k + 1 + 1]? = _ from g4) (show W.heap[k + 1 + 1]? = _ from H4.out).symm
      · exact Eq.trans (show W4.heap[k + 1 + 1 + 1]? = _ from g5) (show W.heap[k + 1 + 1 + 1]? = _ from H5.out).symm
  case done =>
    rintro D ys W hD rfl ⟨h1, h2, h3, h4, h5, h6⟩ hK
    have e : soFarQ (linesQ s.data.toList) = encQ s.data.toList := rfl
    rw [e] at h1
    clear e
    have hstr := Tryz.Builder_String_any_k w.heap.size w.heap.size _ W (Lib.IsBuilderF.of (.inr h1)) h6.size
    have hDne : some D ≠ some w.heap.size := by simp; omega
    clear h1
    gi_wp2_with fail
    refine ⟨trivial, ?_⟩
    refine (callsIn_wide.2 hstr).mono ?_
    rintro e W2 ⟨rfl, _, hbe, ho⟩
    have hK' : W2.heap[D]? = some (.deferred (some [])) := ho D _ hK hDne (fun c fz e => by cases e)
    clear hstr
    gi_wp2
    refine ⟨by simp, .inl ⟨_, _, rfl, run_takeDeferred hK', ?_⟩⟩
    refine ⟨.string ⟨(encQ s.data.toList).toArray⟩, by simp [results, Tryz.f25, go_sem], rfl, ?_⟩
    exact (h6.trans hbe).trans (belowK_b (w := w) (Nat.le_refl _) W2 D _ _ (by omega) hK' rfl rfl)
  case stop =>
    rintro D c pre W hD _ h
    exact h.elim
end Go.Proofs.YtidlpdiephlkhaaGreatDoor
