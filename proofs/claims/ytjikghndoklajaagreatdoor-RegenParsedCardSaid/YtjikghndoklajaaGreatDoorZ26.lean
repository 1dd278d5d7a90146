/-
  Texts of this proof, put together: Q4A, Q5S, Q5L.
-/
import Derived.Test.YtjikghndoklajaaGreatDoorZ05
import Derived.Test.YtjikghndoklajaaGreatDoorRows
import Derived.WalkKit
import Derived.WalkSpells
import Derived.WalkLawsBesides
import Derived.Laws.BytesArg
import Derived.LoopIn
import Derived.Deep.LoopGhost
import Derived.Deep.QuietTactic
import Derived.Deep.RegionWith
import Derived.Laws.BitsLemmas
import Derived.Test.YtjikghndoklajaaGreatDoorZ13
import Derived.Test.YtjikghndoklajaaGreatDoorZ11
import Derived.RangeFuncBox
import Derived.RangeFuncNested
import Derived.RangeFuncBound
namespace Go.Proofs.YtjikghndoklajaaGreatDoor
open Go.RowKit

def decV4 (r : Option (List UInt8)) : Value := match r with
  | some l => .tuple #[.string ⟨l.toArray⟩, .int .i64 0]
  | none => .tuple #[.string ⟨#[]⟩, .int .i64 2]
theorem conv_one (c : UInt8) (W : World) : (convert 96 9 (.slice (some ⟨W.heap.size, 0, none⟩) 1 1)).run Tryz.prog (W.alloc (.cells #[.int .u8 (c.toNat : Int)] 5)) = .ok (.string ⟨#[c]⟩) (W.alloc (.cells #[.int .u8 (c.toNat : Int)] 5)) := by
  have := run_convert_bytes_arg (P := Tryz.prog) (W.alloc (.cells #[.int .u8 (c.toNat : Int)] 5)) 96 5 Tryz.underlying96 Tryz.underlying5 W.heap.size 0 1 1 [(c.toNat : Int)] rfl (fun i hi => by
    obtain rfl : i = 0 := by omega
    go_simp) 9 Tryz.underlying9
  rw [this]
  unfold strOfNums
  simp
theorem sign_plain {c : UInt8} {last : Bool} (h : plainQ c last = true) : signB c last = [c] := by unfold signB; rw [if_pos h]
theorem sign_coded {c : UInt8} {last : Bool} (h : plainQ c last = false) : signB c last = [61, digB (c.toNat / 16), digB (c.toNat % 16)] := by unfold signB; rw [if_neg (by rw [h]; simp)]
theorem plain_mid {c : UInt8} (last : Bool) (h1 : 33 ≤ c.toNat) (h2 : c.toNat ≤ 126) (h3 : c.toNat ≠ 61) : plainQ c last = true := by
  unfold plainQ
  rw [decide_eq_true h1, decide_eq_true h2, decide_eq_true (show c ≠ 61 from fun e => h3 (by rw [e]; rfl))]
  rfl
theorem plain_blank {c : UInt8} (h : c.toNat = 32 ∨ c.toNat = 9) (last : Bool) : plainQ c last = !last := by
  rcases h with h | h
  · obtain rfl : c = 32 := UInt8.toNat_inj.1 h
    cases last <;> decide
  · obtain rfl : c = 9 := UInt8.toNat_inj.1 h
    cases last <;> decide
theorem plain_no {c : UInt8} (last : Bool) (h : c.toNat = 61 ∨ 126 < c.toNat ∨ (c.toNat < 33 ∧ c.toNat ≠ 32 ∧ c.toNat ≠ 9)) : plainQ c last = false := by
  have h32 : c.toNat ≠ 32 → c ≠ 32 := fun h e => h (by rw [e]; rfl)
  have h9 : c.toNat ≠ 9 → c ≠ 9 := fun h e => h (by rw [e]; rfl)
  unfold plainQ
  rcases h with h | h | ⟨h1, h2, h3⟩
  · rw [decide_eq_false (show ¬ c ≠ 61 from fun e => e (UInt8.toNat_inj.1 h)), decide_eq_false (h32 (by omega)), decide_eq_false (h9 (by omega))]
    simp
  · rw [decide_eq_false (show ¬ c.toNat ≤ 126 by omega), decide_eq_false (h32 (by omega)), decide_eq_false (h9 (by omega))]
    simp
  · rw [decide_eq_false (show ¬ 33 ≤ c.toNat by omega), decide_eq_false (h32 h2), decide_eq_false (h9 h3)]
    simp
theorem bytes_ne4 {a b : ByteArray} (h : a ≠ b) : (a.toList == b.toList) = false := by
  have e : ∀ t : ByteArray, t.toList = t.data.toList := fun t => by
    cases t with
    | mk d => cases d with
      | mk l => simp
  simp only [e, beq_eq_false_iff_ne, ne_eq]
  exact fun e => h (ByteArray.ext (Array.ext' e))
end Go.Proofs.YtjikghndoklajaaGreatDoor
namespace Go.Proofs.YtjikghndoklajaaGreatDoor
open Go.RowKit

set_option maxRecDepth 100000 in
set_option maxHeartbeats 1600000 in
theorem stands_any (c : UInt8) (last : Bool) (w : World) : Calls Tryz.prog 149 #[.int .u8 (c.toNat : Int), .bool last] w fun e w' => e = .returned (.bool (plainQ c last)) ∧ w' = w := by
  have hcl : c.toNat < 256 := c.toNat_lt
  rcases (by omega : (33 ≤ c.toNat ∧ c.toNat ≤ 126 ∧ c.toNat ≠ 61) ∨ c.toNat = 61 ∨ c.toNat = 32 ∨ c.toNat = 9 ∨ (c.toNat < 33 ∧ c.toNat ≠ 32 ∧ c.toNat ≠ 9) ∨ 126 < c.toNat) with h | h | h | h | h | h
  · have f0 : ((c.toNat : Int) != 61) = true := by rw [bne_iff_ne]; omega
    have f1 : ((c.toNat : Int) == 32) = false := by rw [beq_eq_false_iff_ne]; omega
    have f2 : ((c.toNat : Int) == 9) = false := by rw [beq_eq_false_iff_ne]; omega
    have f3 : decide ((c.toNat : Int) > 32) = true := decide_eq_true (by omega)
    have f4 : decide ((c.toNat : Int) ≤ 126) = true := decide_eq_true (by omega)
    rw [show plainQ c last = true from plain_mid last (by omega) (by omega) (by omega)]
    clear h hcl
    go_enter Tryz.func149, Tryz.ntmps149
    go_wp2
    go_ret
    exact ⟨congrArg (fun b => Ending.returned (Value.bool b)) f0, rfl⟩
  · have f0 : ((c.toNat : Int) != 61) = false := by rw [bne_eq_false_iff_eq]; omega
    have f1 : ((c.toNat : Int) == 32) = false := by rw [beq_eq_false_iff_ne]; omega
    have f2 : ((c.toNat : Int) == 9) = false := by rw [beq_eq_false_iff_ne]; omega
    have f3 : decide ((c.toNat : Int) > 32) = true := decide_eq_true (by omega)
    have f4 : decide ((c.toNat : Int) ≤ 126) = true := decide_eq_true (by omega)
    rw [show plainQ c last = false from plain_no last (by omega)]
    clear h hcl
    go_enter Tryz.func149, Tryz.ntmps149
    go_wp2
    go_ret
    exact ⟨congrArg (fun b => Ending.returned (Value.bool b)) f0, rfl⟩
  · have f1 : ((c.toNat : Int) == 32) = true := by rw [beq_iff_eq]; omega
    rw [show plainQ c last = !last from plain_blank (by omega) last]
    clear h hcl
    go_enter Tryz.func149, Tryz.ntmps149
    go_wp2
    go_ret
    exact ⟨rfl, rfl⟩
  · have f1 : ((c.toNat : Int) == 32) = false := by rw [beq_eq_false_iff_ne]; omega
    have f2 : ((c.toNat : Int) == 9) = true := by rw [beq_iff_eq]; omega
    rw [show plainQ c last = !last from plain_blank (by omega) last]
    clear h hcl
    go_enter Tryz.func149, Tryz.ntmps149
    go_wp2
    go_ret
    exact ⟨rfl, rfl⟩
  · have f1 : ((c.toNat : Int) == 32) = false := by rw [beq_eq_false_iff_ne]; omega
    have f2 : ((c.toNat : Int) == 9) = false := by rw [beq_eq_false_iff_ne]; omega
    have f3 : decide ((c.toNat : Int) > 32) = false := decide_eq_false (by omega)
    rw [show plainQ c last = false from plain_no last (by omega)]
    clear h hcl
    go_enter Tryz.func149, Tryz.ntmps149
    go_wp2
    go_ret
    exact ⟨rfl, rfl⟩
  · have f1 : ((c.toNat : Int) == 32) = false := by rw [beq_eq_false_iff_ne]; omega
    have f2 : ((c.toNat : Int) == 9) = false := by rw [beq_eq_false_iff_ne]; omega
    have f3 : decide ((c.toNat : Int) > 32) = true := decide_eq_true (by omega)
    have f4 : decide ((c.toNat : Int) ≤ 126) = false := decide_eq_false (by omega)
    rw [show plainQ c last = false from plain_no last (by omega)]
    clear h hcl
    go_enter Tryz.func149, Tryz.ntmps149
    go_wp2
    go_ret
    exact ⟨rfl, rfl⟩

theorem wraps_u8 (n : Int) (h0 : 0 ≤ n) (h1 : n < 2 ^ 8) : IntKind.u8.wrap n = n := by rw [IntKind.wrap_u8]; omega
theorem mask15 (a : Nat) (ha : a < 256) : bits .and .u8 (a : Int) 15 = ((a % 16 : Nat) : Int) := by
  have := bits_mask .u8 8 (by decide) wraps_u8 4 (by decide) a (Int.natCast_nonneg _) (by exact_mod_cast ha)
  rw [show (2 : Int) ^ 4 - 1 = 15 from by decide] at this
  rw [this]
  push_cast
  rfl
theorem digits_fin : ∀ v : Fin 16, (⟨#[48, 49, 50, 51, 52, 53, 54, 55, 56, 57, 65, 66, 67, 68, 69, 70]⟩ : ByteArray)[v.val]'(v.isLt) = digB v.val := by decide +kernel
theorem digits_at (v : Nat) (h : v < 16) : (⟨#[48, 49, 50, 51, 52, 53, 54, 55, 56, 57, 65, 66, 67, 68, 69, 70]⟩ : ByteArray)[v]'(h) = digB v := digits_fin ⟨v, h⟩

theorem conv_two (a b : UInt8) (W : World) : (convert 96 9 (.slice (some ⟨W.heap.size, 0, none⟩) 2 2)).run Tryz.prog (W.alloc (.cells #[.int .u8 (a.toNat : Int), .int .u8 (b.toNat : Int)] 5)) = .ok (.string ⟨#[a, b]⟩) (W.alloc (.cells #[.int .u8 (a.toNat : Int), .int .u8 (b.toNat : Int)] 5)) := by
  have := run_convert_bytes_arg (P := Tryz.prog) (W.alloc (.cells #[.int .u8 (a.toNat : Int), .int .u8 (b.toNat : Int)] 5)) 96 5 Tryz.underlying96 Tryz.underlying5 W.heap.size 0 2 2 [(a.toNat : Int), (b.toNat : Int)] rfl (fun i hi => by
    rcases (by omega : i = 0 ∨ i = 1) with rfl | rfl <;> go_simp) 9 Tryz.underlying9
  rw [this]
  unfold strOfNums
  simp

set_option maxRecDepth 100000 in
set_option maxHeartbeats 1600000 in
theorem q4sign_any (c : UInt8) (last : Bool) (w : World) : Calls Tryz.prog 152 #[.int .u8 (c.toNat : Int), .bool last] w fun e w' => e = .returned (.string ⟨(signB c last).toArray⟩) ∧ Below w.heap.size w w' := by
  have hcl : c.toNat < 256 := c.toNat_lt
  have hbw := Below.refl w.heap.size w
  have v1 := conv_one c w
  have hst := stands_any c last
  cases hp : plainQ c last with
  | true =>
    rw [hp] at hst
    rw [sign_plain hp]
    clear hp
    go_enter Tryz.func152, Tryz.ntmps152
    go_wp2_with (go_at_call 149; refine (hst _).mono ?_; rintro e w2 ⟨rfl, rfl⟩)
    go_ret
    exact ⟨rfl, hbw.alloc (Nat.le_refl _) _⟩
  | false =>
    rw [hp] at hst
    rw [sign_coded hp]
    have m15 := mask15 c.toNat hcl
    have hx : c.toNat / 16 < 16 := by omega
    have hy : c.toNat % 16 < 16 := by omega
    have v2 := conv_two (digB (c.toNat / 16)) (digB (c.toNat % 16)) w.drew
    have v3 : (convert 96 9 (.slice (some ⟨w.heap.size, 0, none⟩) 2 2)).run Tryz.prog (w.alloc (.cells #[.int .u8 ((digB (c.toNat / 16)).toNat : Int), .int .u8 ((digB (c.toNat % 16)).toNat : Int)] 5)).drew = .ok (.string ⟨#[digB (c.toNat / 16), digB (c.toNat % 16)]⟩) (w.alloc (.cells #[.int .u8 ((digB (c.toNat / 16)).toNat : Int), .int .u8 ((digB (c.toNat % 16)).toNat : Int)] 5)).drew := v2
    have i1 : ((⟨#[48, 49, 50, 51, 52, 53, 54, 55, 56, 57, 65, 66, 67, 68, 69, 70]⟩ : ByteArray)[((c.toNat : Int) / 16).toNat]'(by show _ < 16; omega)).toNat = (digB (c.toNat / 16)).toNat := congrArg UInt8.toNat (digits_at (c.toNat / 16) hx)
    have i2 : ((⟨#[48, 49, 50, 51, 52, 53, 54, 55, 56, 57, 65, 66, 67, 68, 69, 70]⟩ : ByteArray)[((c.toNat : Int) % 16).toNat]'(by show _ < 16; omega)).toNat = (digB (c.toNat % 16)).toNat := congrArg UInt8.toNat (digits_at (c.toNat % 16) hy)
    clear hp
    go_enter Tryz.func152, Tryz.ntmps152
    go_wp2_with (go_at_call 149; refine (hst _).mono ?_; rintro e w2 ⟨rfl, rfl⟩)
    go_region_with (fail)
    all_goals
      (try go_wp2)
      go_ret
      exact ⟨rfl, (hbw.alloc (Nat.le_refl _) _).drew⟩
end Go.Proofs.YtjikghndoklajaaGreatDoor
namespace Go.Proofs.YtjikghndoklajaaGreatDoor
open Go.RowKit

set_option maxRecDepth 100000 in
set_option maxHeartbeats 2000000 in
theorem put_any (B b C D : Nat) (bs : List UInt8) (k : Nat) (x : ByteArray) (w : World) (h : Lib.BuilderAt 113 5 B b (.pointer (some ⟨b, 0, none⟩)) (Lib.byteCells bs) w)
    (hC : Boxed w C 3 (.int .i64 k)) (hD : Boxed w D 111 (.pointer (some ⟨b, 0, none⟩))) (hBC : B ≤ C) (hlen : bs.length + x.size + 3 ≤ 1000000000) (hBw : B ≤ w.heap.size) (hk : k ≤ 1000) (hx : x.size ≤ 1000) :
    Calls Tryz.prog 153 #[.string x, .pointer (some ⟨C, 0, none⟩), .pointer (some ⟨D, 0, none⟩)] w fun e w' => e = .returned (.tuple #[]) ∧
      (Lib.BuilderAt 113 5 B b (.pointer (some ⟨b, 0, none⟩)) (Lib.byteCells (bs ++ addQ k x.data.toList)) w' ∧ Boxed w' C 3 (.int .i64 (roomQ k x.data.toList : Nat)) ∧ Boxed w' D 111 (.pointer (some ⟨b, 0, none⟩)) ∧ Below B w w' ∧ KeptBut b C w w') := by
  have hxl : x.data.toList.length = x.size := rfl
  have nC := builder_ne h hC
  have nD := builder_ne h hD
  have nCD : D ≠ C := fun e => by
    rw [e] at hD
    have hD : w.heap[C]? = some (.cells #[_] 111 (0, 0)) := hD
    have hC : w.heap[C]? = some (.cells #[_] 3 (0, 0)) := hC
    rw [hC] at hD
    simp at hD
  have c1 := hC.cell
  have c2 := hD.cell
  have f1 := hC.frozen
  have HC := Lib.hid hC
  have HD := Lib.hid hD
  by_cases hw : 75 < k + x.size
  · have e1 : addQ k x.data.toList = [61, 13, 10] ++ x.data.toList := by unfold addQ; rw [hxl, if_pos hw]
    have e2 : roomQ k x.data.toList = x.size := by unfold roomQ; rw [hxl, if_pos hw]
    have hb1 := bwrite_k B b (Lib.byteCells bs) ⟨#[61, 13, 10]⟩ w h (by rw [Lib.byteCells_length]; show _ + 3 ≤ _; omega) hBw
    rw [show Lib.byteCells bs ++ Lib.strCells ⟨#[61, 13, 10]⟩ = Lib.byteCells (bs ++ [61, 13, 10]) by rw [Lib.byteCells_append]; rfl] at hb1
    rw [e1, e2, ← List.append_assoc]
    clear e1 e2 hxl hC hD
    go_enter Tryz.func153, Tryz.ntmps153
    go_wp2_with (go_at_call 74; refine hb1.mono ?_)
    rintro e w2 ⟨rfl, hbd, hbe, hoth, hsz⟩
    have hC2 := kept_box hoth (by decide) nC HC.out
    have hD2 := kept_box hoth (by decide) nD HD.out
    have c3 := hC2.cell
    have f3 := hC2.frozen
    have hD3 : Boxed (w2.setCell ⟨C, 0, none⟩ (.int .i64 0)) D 111 (.pointer (some ⟨b, 0, none⟩)) := hD2.other nCD _
    have hC3 : Boxed (w2.setCell ⟨C, 0, none⟩ (.int .i64 0)) C 3 (.int .i64 0) := hC2.set _
    have c4 := hD3.cell
    have hbd3 := builder_box (t := 3) (by decide) (.int .i64 0) hbd ⟨_, hC2⟩
    have hb2 := bwrite_k B b (Lib.byteCells (bs ++ [61, 13, 10])) x _ hbd3 (by rw [Lib.byteCells_length, List.length_append]; show _ + 3 + _ ≤ _; omega) (by rw [show (w2.setCell ⟨C, 0, none⟩ (.int .i64 0)).heap.size = w2.heap.size by simp [World.setCell]]; omega)
    rw [show Lib.byteCells (bs ++ [61, 13, 10]) ++ Lib.strCells x = Lib.byteCells (bs ++ [61, 13, 10] ++ x.data.toList) by rw [Lib.byteCells_append (bs ++ _)]; rfl] at hb2
    have HC3 := Lib.hid hC3
    have HD3 := Lib.hid hD3
    have K2 := Lib.hid ((KeptBut.of (c := C) hoth).set (.int .i64 0))
    have L2 := Lib.hid (hbe.setCell (p := ⟨C, 0, none⟩) hBC (.int .i64 0))
    clear hC2 hD2 hD3 hC3 hbd hbd3 hoth hbe hb1
    go_wp2_with (go_at_call 74; refine hb2.mono ?_)
    rintro e w4 ⟨rfl, hbd4, hbe4, hoth4, hsz4⟩
    have hC4 := kept_box hoth4 (by decide) nC HC3.out
    have hD4 := kept_box hoth4 (by decide) nD HD3.out
    have c5 := hC4.cell
    have f5 := hC4.frozen
    have HC4 := Lib.hid hC4
    have HD4 := Lib.hid hD4
    have K4 := Lib.hid ((K2.out.trans (KeptBut.of (c := C) hoth4)).set (.int .i64 x.size))
    have L4 := Lib.hid ((L2.out.trans hbe4).setCell (p := ⟨C, 0, none⟩) hBC (.int .i64 x.size))
    have B4 := Lib.hid (builder_box (t := 3) (by decide) (.int .i64 x.size) hbd4 ⟨_, hC4⟩)
    clear hC4 hD4 hbd4 hbe4 hoth4 hb2
    go_wp2
    go_end0
    exact ⟨rfl, B4.out, HC4.out.set _, HD4.out.other nCD _, L4.out, K4.out⟩
  · have e1 : addQ k x.data.toList = x.data.toList := by unfold addQ; rw [hxl, if_neg hw]
    have e2 : roomQ k x.data.toList = k + x.size := by unfold roomQ; rw [hxl, if_neg hw]
    have hb2 := bwrite_k B b (Lib.byteCells bs) x w h (by rw [Lib.byteCells_length]; omega) hBw
    rw [show Lib.byteCells bs ++ Lib.strCells x = Lib.byteCells (bs ++ x.data.toList) by rw [Lib.byteCells_append]; rfl] at hb2
    rw [e1, e2]
    clear e1 e2 hxl hC hD
    go_enter Tryz.func153, Tryz.ntmps153
    go_wp2_with (go_at_call 74; refine hb2.mono ?_)
    rintro e w4 ⟨rfl, hbd4, hbe4, hoth4, hsz4⟩
    have hC4 := kept_box hoth4 (by decide) nC HC.out
    have hD4 := kept_box hoth4 (by decide) nD HD.out
    have c5 := hC4.cell
    have f5 := hC4.frozen
    have HC4 := Lib.hid hC4
    have HD4 := Lib.hid hD4
    have K4 := Lib.hid ((KeptBut.of (c := C) hoth4).set (.int .i64 ((k : Int) + x.size)))
    have L4 := Lib.hid (hbe4.setCell (p := ⟨C, 0, none⟩) hBC (.int .i64 ((k : Int) + x.size)))
    have B4 := Lib.hid (builder_box (t := 3) (by decide) (.int .i64 ((k : Int) + x.size)) hbd4 ⟨_, hC4⟩)
    clear hC4 hD4 hbd4 hbe4 hoth4 hb2
    go_wp2
    go_end0
    exact ⟨rfl, B4.out, by push_cast; exact HC4.out.set _, HD4.out.other nCD _, L4.out, K4.out⟩

set_option maxRecDepth 100000 in
set_option maxHeartbeats 2000000 in
theorem tell_any (B b C D : Nat) (bs : List UInt8) (s : ByteArray) (w : World) (h : Lib.BuilderAt 113 5 B b (.pointer (some ⟨b, 0, none⟩)) (Lib.byteCells bs) w)
    (hC : Boxed w C 3 (.int .i64 0)) (hD : Boxed w D 111 (.pointer (some ⟨b, 0, none⟩))) (hBC : B ≤ C) (hlen : bs.length + (tellQ 0 s.data.toList).length ≤ 100000000) (hBw : B ≤ w.heap.size) (hs : s.size ≤ 100000000) :
    Calls Tryz.prog 115 #[.string s, .func (.func 153) #[] #[.pointer (some ⟨C, 0, none⟩), .pointer (some ⟨D, 0, none⟩)]] w fun e w' => e = .returned (.tuple #[]) ∧
      (Lib.BuilderAt 113 5 B b (.pointer (some ⟨b, 0, none⟩)) (Lib.byteCells (bs ++ tellQ 0 s.data.toList)) w' ∧ Below B w w' ∧ KeptBut b C w w') := by
  have hsl : s.data.toList.length = s.size := rfl
  have hk0 := KeptBut.refl b C w
  have hb0 := Below.refl B w
  have Hsl := Lib.hid hsl
  have Hlen := Lib.hid hlen
  clear hsl hlen
  go_enter Tryz.func115, Tryz.ntmps115
  go_wp2
  go_loopw [4, 7] (fun _ kv wr => ∃ (i n : Nat) (done : List UInt8), i ≤ s.size ∧ kv = .int .i64 i ∧ n ≤ 75 ∧ tellQ 0 s.data.toList = done ++ tellQ n (s.data.toList.drop i) ∧
      Lib.BuilderAt 113 5 B b (.pointer (some ⟨b, 0, none⟩)) (Lib.byteCells (bs ++ done)) wr ∧ Boxed wr C 3 (.int .i64 n) ∧ Boxed wr D 111 (.pointer (some ⟨b, 0, none⟩)) ∧ Below B w wr ∧ KeptBut b C w wr) (fun _ kv _ => s.size - (intOf kv).toNat)
  case atStart => exact ⟨0, 0, [], Nat.zero_le _, rfl, by omega, rfl, by rw [List.append_nil]; exact h, hC, hD, hb0, hk0⟩
  case round =>
    obtain ⟨i, n, done, hi, rfl, hn, hst, hbd, hCr, hDr, hbr, hkr⟩ := hrel
    by_cases hlt : i < s.size
    · have hdr : s.data.toList.drop i = s[i] :: s.data.toList.drop (i + 1) := by
        rw [List.drop_eq_getElem_cons (by rw [Hsl.out]; exact hlt)]
        rfl
      rw [hdr, tell_cons] at hst
      obtain ⟨last, hlast⟩ : ∃ last, decide (s.data.toList.drop (i + 1) = []) = last := ⟨_, rfl⟩
      have hq : ((i : Int) == (s.size : Int) - 1) = last := by
        rw [← hlast, Bool.eq_iff_iff, beq_iff_eq, decide_eq_true_eq, List.drop_eq_nil_iff, Hsl.out]
        omega
      rw [hlast] at hst
      obtain ⟨x, hx⟩ : ∃ x : ByteArray, (⟨(signB s[i] last).toArray⟩ : ByteArray) = x := ⟨_, rfl⟩
      have hxl : x.data.toList = signB s[i] last := by rw [← hx]
      have hxs : x.size ≤ 3 := by
        have e : x.size = (signB s[i] last).length := by rw [← hx]; rfl
        rcases sign_len s[i] last with h | h <;> omega
      have hsg := q4sign_any s[i] last
      rw [hx] at hsg
      rw [← hxl] at hst
      have hll := Hlen.out
      have hal := add_len n x.data.toList
      have hrm : roomQ n x.data.toList ≤ 75 := room_le (by rw [show x.data.toList.length = x.size from rfl]; exact hxs)
      rw [hst] at hll
      simp only [List.length_append] at hll
      have hdl : (bs ++ done).length + x.size + 3 ≤ 1000000000 := by simp only [List.length_append]; omega
      have Hst : Hid (tellQ 0 s.data.toList = (done ++ addQ n x.data.toList) ++ tellQ (roomQ n x.data.toList) (s.data.toList.drop (i + 1))) := Lib.hid (by rw [hst, List.append_assoc])
      have Hrm := Lib.hid hrm
      have hbz := hbr.size
      clear hst hll hal hxl hx hdr hlast hrm
      go_wp2_with (go_at_call 152; refine (hsg _).mono ?_)
      rintro e w2 ⟨rfl, hb2⟩
      have hput := put_any B b C D (bs ++ done) n x w2 (builder_below hbd hb2) (boxed_below hCr hb2) (boxed_below hDr hb2) hBC hdl (by have := hb2.size; omega) (by omega) (by omega)
      have Hb2 := Lib.hid (hbr.trans (hb2.mono (by omega)))
      have Hk2 := Lib.hid (hkr.trans (kept_below (b := b) (c := C) hb2))
      clear hsg hb2 hbd hCr hDr
      go_wp2_with (go_at_call 153; refine hput.mono ?_)
      rintro e w3 ⟨rfl, hbd3, hC3, hD3, hb3, hk3⟩
      go_wp2
      exact ⟨⟨i + 1, _, _, by omega, by go_num, Hrm.out, Hst.out, by rw [← List.append_assoc]; exact hbd3, hC3, hD3, Hb2.out.trans hb3, Hk2.out.trans hk3⟩, by simp [intOf]; omega⟩
    · have hnil : s.data.toList.drop i = [] := List.drop_eq_nil_of_le (by rw [Hsl.out]; omega)
      rw [hnil, tellQ, List.append_nil] at hst
      rw [← hst] at hbd
      clear hnil hst
      go_wp2
      go_end0
      exact ⟨rfl, hbd, hbr, hkr⟩

set_option maxRecDepth 100000 in
theorem putter_any (b : Nat) (w : World) : Calls Tryz.prog 116 #[.pointer (some ⟨b, 0, none⟩)] w fun e w' =>
    e = .returned (.func (.func 153) #[] #[.pointer (some ⟨w.heap.size + 1, 0, none⟩), .pointer (some ⟨w.heap.size, 0, none⟩)]) ∧
    w' = (w.alloc (.cells #[.pointer (some ⟨b, 0, none⟩)] 111)).alloc (.cells #[.int .i64 0] 3) := by
  have hmf : ∀ (fn : Fn) (first cap : Array Value) (w : World), (Instr.makeFunc fn first cap).run Tryz.prog w = .ok (.func fn first cap) w := fun _ _ _ _ => rfl
  go_enter Tryz.func116, Tryz.ntmps116
  go_wp2
  go_ret
  exact ⟨rfl, rfl⟩
end Go.Proofs.YtjikghndoklajaaGreatDoor
