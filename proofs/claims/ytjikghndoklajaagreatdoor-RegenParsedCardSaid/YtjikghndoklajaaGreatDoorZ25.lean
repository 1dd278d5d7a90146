/-
  Texts of this proof, put together: DecV, T64, D64, B64L, U64P, U64.
-/
import Derived.Test.YtjikghndoklajaaGreatDoorRows
import Derived.WalkKit
import Derived.Test.YtjikghndoklajaaGreatDoorZ10
import Derived.Test.YtjikghndoklajaaGreatDoorZ02
import Derived.Deep.QuietTactic
import Derived.BigQuiet
import Derived.Lib.CutLaws
import Derived.Test.YtjikghndoklajaaGreatDoorZ11
namespace Go.Proofs.YtjikghndoklajaaGreatDoor
open Go.RowKit

def decV (r : Option (List UInt8)) : Value := match r with
  | some l => .tuple #[.string ⟨l.toArray⟩, .int .i64 0]
  | none => .tuple #[.string ⟨#[]⟩, .int .i64 2]
end Go.Proofs.YtjikghndoklajaaGreatDoor
namespace Go.Proofs.YtjikghndoklajaaGreatDoor
open Go.RowKit

def TabIs (cs : Array Value) (k : Nat) (f : Nat → Nat) : Prop := ∀ i, i < 256 → cs[k + i]? = some (.int .u8 (f i : Int))
def SameBut (cs cs' : Array Value) (k : Nat) : Prop := cs'.size = cs.size ∧ ∀ j, (j < k ∨ k + 256 ≤ j) → cs'[j]? = cs[j]?
def Held (w : World) (b : Nat) (cs : Array Value) (T : TypeId) : Prop := w.heap[b]? = some (.cells cs T (0, 0))
section
variable {w : World} {b : Nat} {cs : Array Value} {T : TypeId}
theorem Held.cell (h : Held w b cs T) (j : Nat) : w.cell? ⟨b, j, none⟩ = cs[j]? := Lib.cell_of_heap h j
theorem Held.frozen (h : Held w b cs T) (j : Nat) : w.frozen? ⟨b, j, none⟩ = false := Lib.frozen_of_heap h j
theorem Held.lt (h : Held w b cs T) : b < w.heap.size := (Array.getElem?_eq_some_iff.1 h).1
theorem Held.set_ (h : Held w b cs T) (j : Nat) (v : Value) : Held (w.setCell ⟨b, j, none⟩ v) b (cs.setIfInBounds j v) T := by
  unfold Held at h ⊢
  simp [World.setCell, Array.getElem?_modify, h]
theorem Held.drewN (h : Held w b cs T) (n : Nat) : Held (w.drewN n) b cs T := h
theorem set_get (cs : Array Value) (j i : Nat) (v : Value) (hj : j < cs.size) : (cs.setIfInBounds j v)[i]? = if i = j then some v else cs[i]? := by
  rw [Array.getElem?_setIfInBounds]
  by_cases h : i = j
  · subst h; simp [hj]
  · rw [if_neg (fun e => h e.symm), if_neg h]
theorem SameBut.set_ {cs0 : Array Value} {k : Nat} (h : SameBut cs0 cs k) {i : Nat} (hi : i < 256) (v : Value) (hk : k + 256 ≤ cs0.size) : SameBut cs0 (cs.setIfInBounds (k + i) v) k :=
  ⟨by rw [Array.size_setIfInBounds]; exact h.1, fun j hj => by rw [set_get _ _ _ _ (by rw [h.1]; omega), if_neg (by omega)]; exact h.2 j hj⟩
theorem TabIs.set_at {k : Nat} {f g : Nat → Nat} (h : TabIs cs k f) {i n : Nat} (hi : i < 256) (hk : k + 256 ≤ cs.size) (hg : ∀ j, j < 256 → g j = if j = i then n else f j) : TabIs (cs.setIfInBounds (k + i) (.int .u8 (n : Int))) k g := fun j hj => by
  rw [set_get _ _ _ _ (by omega), hg j hj]
  by_cases e : j = i
  · rw [if_pos (by omega), if_pos e]
  · rw [if_neg (by omega), if_neg e]; exact h j hj
theorem TabIs.set_ {k : Nat} {f g : Nat → Nat} (h : TabIs cs k f) {i n : Nat} (hi : i < 256) (hk : k + 256 ≤ cs.size) (hg : ∀ j, g j = if j = i then n else f j) : TabIs (cs.setIfInBounds (k + i) (.int .u8 (n : Int))) k g := fun j hj => by
  rw [set_get _ _ _ _ (by omega), hg j]
  by_cases e : j = i
  · rw [if_pos (by omega), if_pos e]
  · rw [if_neg (by omega), if_neg e]; exact h j hj
theorem grown_drew {w w0 : World} {b : Nat} (h : w0.grownBy w (some b)) : w0.grownBy w.drew (some b) := ⟨h.os, h.tape, h.output, h.size, h.block⟩
theorem grown_set {w w0 : World} {b : Nat} (h : w0.grownBy w (some b)) (j : Nat) (v : Value) : w0.grownBy (w.setCell ⟨b, j, none⟩ v) (some b) :=
  ⟨h.os, h.tape, h.output, by simpa [World.setCell] using h.size, fun i hi hne => (Below.heap_setCell w ⟨b, j, none⟩ v i (fun e => hne (by rw [e]))).trans (h.block i hi hne)⟩
end

set_option maxRecDepth 100000 in
set_option maxHeartbeats 2000000 in
theorem build_any (b k : Nat) (cs : Array Value) (T : TypeId) (f0 : Nat → Nat) (w : World) (h : Held w b cs T) (hk : k + 256 ≤ cs.size) (h0 : TabIs cs k f0) :
    Calls Tryz.prog 111 #[.pointer (some ⟨b, k, none⟩)] w fun e w' => e = .returned (.tuple #[]) ∧ ∃ cs', Held w' b cs' T ∧ SameBut cs cs' k ∧ TabIs cs' k (tabV 64) ∧ w.grownBy w' (some b) := by
  go_enter Tryz.func111, Tryz.ntmps111
  go_wp2
  go_loopw [2, 4] (fun _ iv wr => ∃ (i : Nat) (c1 : Array Value), i ≤ 256 ∧ iv = .int .i64 i ∧ Held wr b c1 T ∧ SameBut cs c1 k ∧ TabIs c1 k (fun j => if j < i then 64 else f0 j) ∧ w.grownBy wr (some b)) (fun _ iv _ => 256 - (intOf iv).toNat)
  case atStart => exact ⟨0, cs, by omega, rfl, h, ⟨rfl, fun _ _ => rfl⟩, h0, ⟨rfl, rfl, rfl, Nat.le_refl _, fun _ _ _ => rfl⟩⟩
  case round =>
    obtain ⟨i, c1, hi, rfl, hh, hsb, htab, hg⟩ := hrel
    by_cases hlt : i < 256
    · have hc := hh.cell (k + i)
      rw [htab i hlt] at hc
      have hf := hh.frozen (k + i)
      go_wp2
      refine ⟨⟨i + 1, _, by omega, by go_num, hh.set_ (k + i) _, hsb.set_ hlt _ hk, ?_, grown_set hg _ _⟩, by simp [intOf]; omega⟩
      exact htab.set_ hlt (by rw [hsb.1]; omega) (n := 64) fun j => by
        by_cases hj : j = i
        · rw [if_pos hj, if_pos (by omega)]
        · rw [if_neg hj]
          by_cases h2 : j < i
          · rw [if_pos (by omega), if_pos h2]
          · rw [if_neg (by omega), if_neg h2]
    · have ht0 : TabIs c1 k (tabV 0) := fun j hj => by
        have := htab j hj
        simp only at this
        rw [if_pos (by omega)] at this
        rw [this, tab_zero]
      clear htab
      go_wp2
      go_loopw [3, 12] (fun _ iv wr => ∃ (i : Nat) (c1 : Array Value), i ≤ 64 ∧ iv = .int .i64 i ∧ Held wr b c1 T ∧ SameBut cs c1 k ∧ TabIs c1 k (tabV i) ∧ w.grownBy wr (some b)) (fun _ iv _ => 64 - (intOf iv).toNat)
      case atStart => exact ⟨0, c1, by omega, rfl, hh, hsb, ht0, hg⟩
      case round =>
        obtain ⟨i, c2, hi, rfl, hh, hsb, htab, hg⟩ := hrel
        by_cases hlt : i < 64
        · have hL := alphabet_at i hlt
          have hlb : (letterB i).toNat < 256 := (letterB i).toNat_lt
          have hc := hh.cell (k + (letterB i).toNat)
          rw [htab _ hlb] at hc
          have hf := hh.frozen (k + (letterB i).toNat)
          have Hst := Lib.hid fun j (hj : j < 256) => tab_step i j hlt hj
          obtain ⟨x, hx⟩ : ∃ x, letterB i = x := ⟨_, rfl⟩
          rw [hx] at hL hlb hc hf Hst
          clear hx
          go_wp2
          go_region
          go_wp2
          go_roundw
          case rel => exact ⟨i + 1, _, by omega, by go_num, hh.set_ (k + x.toNat) _, hsb.set_ hlb _ hk, htab.set_at hlb (by rw [hsb.1]; omega) fun j hj => Hst.out j hj, grown_drew (grown_set hg _ _)⟩
          case measure => simp [intOf]; omega
        · obtain rfl : i = 64 := by omega
          go_wp2
          go_end0
          exact ⟨rfl, c2, hh, hsb, htab, hg⟩

theorem trim_lib (l : List UInt8) : Lib.trimSuffix l [61] = trimB l := by
  unfold Lib.trimSuffix trimB Lib.hasSuffix
  have h : ([61].isSuffixOf l = true) ↔ l.getLast? = some 61 := by
    rw [List.isSuffixOf_iff_suffix]
    constructor
    · rintro ⟨t, rfl⟩
      simp
    · intro e
      rcases List.eq_nil_or_concat l with rfl | ⟨t, a, rfl⟩
      · simp at e
      · simp at e
        subst e
        exact ⟨t, by simp⟩
  by_cases e : l.getLast? = some 61
  · rw [if_pos e, if_pos (h.2 e), List.dropLast_eq_take]
    rfl
  · rw [if_neg e, if_neg (fun x => e (h.1 x))]

theorem or_in (v x : Nat) (hv : v < 128) (hx : x < 64) : bits BinOp.or IntKind.u32 ((v : Int) * 64) (x : Int) = ((v * 64 + x : Nat) : Int) := by
  have e : (v : Int) * 64 = ((v * 2 ^ 6 : Nat) : Int) := by push_cast; omega
  rw [e, or_u32 _ _ (by omega) (by omega), or_add v x 6 (by omega)]

theorem mask_in (z m : Nat) (hz : z < 8192) (hm : m ≤ 6) : bits BinOp.and IntKind.u32 (z : Int) ((2 ^ m - 1) % 4294967296) = ((z % 2 ^ m : Nat) : Int) := by
  have h1 : 2 ^ m ≤ 2 ^ 6 := Nat.pow_le_pow_right (by omega) hm
  have h0 : 0 < 2 ^ m := Nat.two_pow_pos m
  have e : ((2 : Int) ^ m - 1) % 4294967296 = 2 ^ m - 1 := by
    have e2 : (2 : Int) ^ m = ((2 ^ m : Nat) : Int) := by push_cast; rfl
    rw [e2]
    generalize 2 ^ m = q at h1 h0 ⊢
    omega
  rw [e, mask_u32 z m (by omega) (by omega)]

set_option maxRecDepth 100000 in
set_option maxHeartbeats 2000000 in
theorem decode_any (b k : Nat) (cs : Array Value) (T : TypeId) (s : ByteArray) (w : World) (h : Held w b cs T) (ht : TabIs cs k (tabV 64)) (hs : s.size ≤ 100000000) :
    Calls Tryz.prog 112 #[.pointer (some ⟨b, k, none⟩), .string s] w fun e w' => e = .returned (decV (decB s.data.toList)) ∧ Below w.heap.size w w' := by
  rw [← dev_dec]
  have hblt := h.lt
  have hl : s.data.toList.length = s.size := rfl
  have Hl := Lib.hid hl
  by_cases h4 : s.size % 4 = 0
  · have hd4 : ((s.size : Int) % 4 != 0) = false := by
      rw [bne_eq_false_iff_eq]; omega
    have hgrow := grow_new ((s.size : Int) / 4 * 3) (by omega) (by omega) w
    obtain ⟨r1, hr1⟩ : ∃ r1 : ByteArray, r1 = ⟨(trimB s.data.toList).toArray⟩ := ⟨_, rfl⟩
    obtain ⟨r, hr⟩ : ∃ r : ByteArray, r = ⟨(trimB (trimB s.data.toList)).toArray⟩ := ⟨_, rfl⟩
    have hz1 : r1.size ≤ s.size := by rw [hr1]; exact trim_le _
    have hz2 : r.size ≤ s.size := by rw [hr]; exact Nat.le_trans (trim_le _) (trim_le _)
    have t1 := Tryz.strings_TrimSuffix s ⟨#[61]⟩ w (by omega)
    have t2 := Tryz.strings_TrimSuffix r1 ⟨#[61]⟩ w (by omega)
    rw [show (⟨#[61]⟩ : ByteArray).data.toList = [61] from rfl, trim_lib, ← hr1] at t1
    rw [show (⟨#[61]⟩ : ByteArray).data.toList = [61] from rfl, trim_lib, show r1.data.toList = trimB s.data.toList by rw [hr1], ← hr] at t2
    have hdv : devDecB s.data.toList = (match devS 0 0 [] r.data.toList with
        | some (v, out) => if v = 0 then some out else none
        | none => none) := by
      unfold devDecB
      rw [if_neg (by omega), hr]
      rfl
    have Hdv := Lib.hid hdv
    have hrl : r.data.toList.length = r.size := rfl
    have Hrl := Lib.hid hrl
    clear hdv hr hr1 hl hrl
    go_enter Tryz.func112, Tryz.ntmps112
    go_wp2_with (first | (go_at_call 148; refine t1.mono ?_; rintro e w' ⟨rfl, hw'⟩; obtain rfl := hw'.symm; clear hw') | (go_at_call 148; refine t2.mono ?_; rintro e w' ⟨rfl, hw'⟩; obtain rfl := hw'.symm; clear hw') | (go_at_call 72; refine hgrow.mono ?_; rintro e w1 ⟨rfl, hb1, hw1⟩))
    clear t1 t2 hgrow
    go_loopw [8, 9, 10, 11, 26] (fun hv nv _ _ iv wr => ∃ (i v n : Nat) (out : List UInt8), i ≤ r.size ∧ iv = .int .i64 i ∧ hv = .int .u32 v ∧ nv = .int .i64 n ∧ n < 8 ∧ v < 2 ^ n ∧ out.length ≤ i ∧ Lib.BuilderAt 113 5 w.heap.size w.heap.size (.pointer (some ⟨w.heap.size, 0, none⟩)) (Lib.byteCells out) wr ∧ Below w.heap.size w wr ∧ devS 0 0 [] r.data.toList = devS v n out (r.data.toList.drop i)) (fun _ _ _ _ iv _ => r.size - (intOf iv).toNat)
    case atStart => exact ⟨0, 0, 0, [], Nat.zero_le _, rfl, rfl, rfl, by omega, by omega, Nat.le_refl _, hb1, hw1, rfl⟩
    case round =>
      obtain ⟨i, v, n, out, hi1, rfl, rfl, rfl, hn, hv, hol, hbd, hbr, hst⟩ := hrel
      have Hst := Lib.hid hst
      have hbz := hbr.size
      clear hst
      by_cases hlt : i < r.size
      · have hdr : r.data.toList.drop i = r[i] :: r.data.toList.drop (i + 1) := by
          rw [List.drop_eq_getElem_cons (by rw [Hrl.out]; exact hlt)]
          rfl
        have Hdr := Lib.hid hdr
        obtain ⟨c, hc⟩ : ∃ c, r[i] = c := ⟨_, rfl⟩
        rw [hc] at hdr
        clear Hdr
        have Hdr := Lib.hid hdr
        have hcl : c.toNat < 256 := c.toNat_lt
        have hcell : wr.cell? ⟨b, k + c.toNat, none⟩ = some (.int .u8 (tabV 64 c.toNat : Int)) := by
          rw [hbr.cell (p := ⟨b, k + c.toNat, none⟩) hblt, h.cell, ht _ hcl]
        clear hdr
        cases hw : worthB c with
        | none =>
          rw [tab_none hw] at hcell
          have Hf : Hid (devDecB s.data.toList = none) := Lib.hid (by rw [Hdv.out, Hst.out, Hdr.out, devS, hw])
          clear hw
          go_wp2
          go_region
          go_wp2
          go_ret2
          exact ⟨by rw [Hf.out]; rfl, below_drewN hbr 1⟩
        | some x =>
          obtain ⟨hx1, hx⟩ := tab_some hw
          rw [hx1] at hcell
          clear hx1
          have hv128 : v < 128 := Nat.lt_of_lt_of_le hv (show 2 ^ n ≤ 2 ^ 7 from Nat.pow_le_pow_right (by omega) (by omega))
          have hor := or_in v x hv128 hx
          by_cases h8 : 8 ≤ n + 6
          · have Hn : Hid (devS 0 0 [] r.data.toList = devS ((v * 64 + x) % 2 ^ (n + 6 - 8)) (n + 6 - 8) (out ++ [UInt8.ofNat ((v * 64 + x) / 2 ^ (n + 6 - 8))]) (r.data.toList.drop (i + 1))) := Lib.hid (by
              rw [Hst.out, Hdr.out, devS, hw]
              simp only
              rw [if_pos h8])
            have Hy : Hid (((UInt8.ofNat ((v * 64 + x) / 2 ^ (n + 6 - 8))).toNat : Int) = ((v * 64 + x : Nat) : Int) / 2 ^ (n - 2) % 256) := Lib.hid (by
              rw [UInt8.toNat_ofNat', show n + 6 - 8 = n - 2 by omega]
              push_cast
              rfl)
            clear hw
            obtain ⟨z, hz⟩ : ∃ z, v * 64 + x = z := ⟨_, rfl⟩
            rw [hz] at hor Hy Hn
            go_wp2
            go_region
            have hwr := wbyte_any w.heap.size w.heap.size out (UInt8.ofNat (z / 2 ^ (n + 6 - 8))) wr.drew (.inr hbd) (by omega) hbz
            rw [Hy.out] at hwr
            go_wp2_with (go_at_call 123; refine hwr.mono ?_)
            rintro e w2 ⟨rfl, hb2, hw2⟩
            clear hwr Hy hor
            have Hv := Lib.hid hv
            clear hv
            have hzb : z < 8192 := by omega
            clear hbd hcell h hz
            go_wp2
            refine ⟨⟨i + 1, z % 2 ^ (n - 2), n - 2, out ++ [UInt8.ofNat (z / 2 ^ (n + 6 - 8))], by omega, by go_num, by rw [mask_in z (n - 2) hzb (by omega)], by congr 1; omega, by omega, Nat.mod_lt _ (Nat.two_pow_pos _), by rw [List.length_append]; show _ + 1 ≤ _; omega, hb2, (below_drewN hbr 1).trans (hw2.mono (Nat.le_refl _)), ?_⟩, by simp [intOf]; omega⟩
            rw [Hn.out, show n + 6 - 8 = n - 2 by omega]
          · have Hn : Hid (devS 0 0 [] r.data.toList = devS (v * 64 + x) (n + 6) out (r.data.toList.drop (i + 1))) := Lib.hid (by
              rw [Hst.out, Hdr.out, devS, hw]
              simp only
              rw [if_neg h8])
            have hv2 : v * 64 + x < 2 ^ (n + 6) := by rw [Nat.pow_add]; omega
            have Hv2 := Lib.hid hv2
            clear hw hv2
            go_wp2
            go_region
            go_wp2
            exact ⟨⟨i + 1, v * 64 + x, n + 6, out, by omega, by go_num, by push_cast; rfl, by push_cast; rfl, by omega, Hv2.out, by omega, hbd, below_drewN hbr 1, Hn.out⟩, by simp [intOf]; omega⟩
      · obtain rfl : i = r.size := by omega
        have hdr : r.data.toList.drop r.size = [] := List.drop_eq_nil_of_le (by rw [Hrl.out]; exact Nat.le_refl _)
        have Hend : Hid (devDecB s.data.toList = if v = 0 then some out else none) := Lib.hid (by rw [Hdv.out, Hst.out, hdr]; rfl)
        clear hdr
        by_cases hv0 : v = 0
        · have hne : ((v : Int) != 0) = false := by rw [bne_eq_false_iff_eq]; omega
          have hstr := Tryz.Builder_String_any w.heap.size w.heap.size out wr (.inr hbd) hbz
          go_wp2_with (go_at_call 76; refine hstr.mono ?_)
          rintro e w2 ⟨rfl, hw2⟩
          go_wp2
          go_ret2
          exact ⟨by rw [Hend.out, if_pos hv0]; rfl, hbr.trans hw2⟩
        · have hne : ((v : Int) != 0) = true := by rw [bne_iff_ne]; omega
          go_wp2
          go_ret2
          exact ⟨by rw [Hend.out, if_neg hv0]; rfl, hbr⟩
  · have hf : devDecB s.data.toList = none := by
      unfold devDecB
      rw [if_pos (by omega)]
    have Hf := Lib.hid hf
    clear hf
    have hd4 : ((s.size : Int) % 4 != 0) = true := by
      rw [bne_iff_ne]; omega
    have hb0 := Below.refl w.heap.size w
    go_enter Tryz.func112, Tryz.ntmps112
    go_wp2
    go_ret2
    exact ⟨by rw [Hf.out]; rfl, hb0⟩
theorem below_grown_at {w w' : World} {N B : Nat} (h : w.grownBy w' (some N)) (hB : B ≤ w.heap.size) (hN : B ≤ N) : Below B w w' := (Below.refl _ _).grown h hB fun k e => by cases e; exact hN
end Go.Proofs.YtjikghndoklajaaGreatDoor
namespace Go.Proofs.YtjikghndoklajaaGreatDoor
open Go.RowKit

theorem zero_table : Tryz.zeroCells139 = Array.replicate 256 (.int .u8 0) := by kernel_rfl
set_option maxRecDepth 100000 in
set_option maxHeartbeats 2000000 in
theorem dec_any (s : ByteArray) (w : World) (hs : s.size ≤ 100000000) :
    Calls Tryz.prog 75 #[.string s] w fun e w' => e = .returned (decV (decB s.data.toList)) ∧ Below w.heap.size w w' := by
  have hz := zero_table
  have hn : Held (w.alloc (.cells Tryz.zeroCells139 139)) w.heap.size Tryz.zeroCells139 139 := heap_alloc_new w _
  have hb := build_any w.heap.size 0 Tryz.zeroCells139 139 (fun _ => 0) _ hn (by rw [hz]; simp) (by rw [hz]; intro i hi; simp [hi])
  clear hz hn
  go_enter Tryz.func75, Tryz.ntmps75
  go_wp2_with (go_at_call 111; refine hb.mono ?_)
  rintro e w1 ⟨rfl, cs, hh, _, ht, hg⟩
  have hd := decode_any w.heap.size 0 cs 139 s w1 hh ht hs
  have hb1 : Below w.heap.size w w1 := ((Below.refl _ w).alloc (Nat.le_refl _) _).trans (below_grown_at hg (by simp) (Nat.le_refl _))
  obtain ⟨r, hr⟩ : ∃ r, decB s.data.toList = r := ⟨_, rfl⟩
  rw [hr] at hd
  have Hr := Lib.hid hr
  clear hr hb
  cases r with
  | none =>
    go_wp2_with (go_at_call 112; refine hd.mono ?_)
    rintro e w2 ⟨rfl, hw2⟩
    unfold decV
    go_wp2
    go_ret2
    exact ⟨by rw [Hr.out]; rfl, hb1.trans (hw2.mono hb1.size)⟩
  | some l =>
    go_wp2_with (go_at_call 112; refine hd.mono ?_)
    rintro e w2 ⟨rfl, hw2⟩
    unfold decV
    go_wp2
    go_ret2
    exact ⟨by rw [Hr.out]; rfl, hb1.trans (hw2.mono hb1.size)⟩
end Go.Proofs.YtjikghndoklajaaGreatDoor
namespace Go.Proofs.YtjikghndoklajaaGreatDoor

section
variable {l : List UInt8} {m n : Nat}
theorem fold_size (l : List UInt8) : (foldB l).length = l.length + 2 * ((l.length + 75) / 76) := fold_len l _ rfl
end
section
variable {s : List UInt8} {k : Nat} (hk : k < (encB s).length)
include hk
end
end Go.Proofs.YtjikghndoklajaaGreatDoor
namespace Go.Proofs.YtjikghndoklajaaGreatDoor

theorem end_index (r : List UInt8) : ∀ a : List UInt8, (∀ c ∈ a, c ≠ 13) → Lib.index (a ++ 13 :: 10 :: r) [13, 10] = a.length
  | [], _ => by simp [Lib.index, List.isPrefixOf]
  | b :: a, h => by
    have hb : b ≠ 13 := h b (by simp)
    have ih := end_index r a (fun c hc => h c (by simp [hc]))
    have hp : List.isPrefixOf [13, 10] (b :: (a ++ 13 :: 10 :: r)) = false := by simp [List.isPrefixOf] <;> (intro e; exact absurd e.symm hb)
    rw [List.cons_append, Lib.index, hp, ih]
    have : ¬ ((a.length : Int) == -1) = true := by simp <;> omega
    simp [this]
theorem end_cut (a r : List UInt8) (h : ∀ c ∈ a, c ≠ 13) : Lib.cut (a ++ 13 :: 10 :: r) [13, 10] = (a, r, true) := by
  unfold Lib.cut
  rw [end_index r a h, if_pos (by omega)]
  simp
theorem sub_index (sub : List UInt8) : ∀ (s : List UInt8) (i : Nat), Lib.index s sub = i → s = s.take i ++ (sub ++ s.drop (i + sub.length))
  | [], i, h => by
    unfold Lib.index at h
    cases sub with
    | nil => simp
    | cons b l => simp at h
  | b :: s, i, h => by
    unfold Lib.index at h
    split at h
    · rename_i hp
      obtain rfl : i = 0 := by omega
      obtain ⟨t, ht⟩ := List.isPrefixOf_iff_prefix.1 hp
      rw [← ht]
      simp
    · split at h
      · omega
      · obtain ⟨j, hj⟩ : ∃ j : Nat, Lib.index s sub = j := ⟨(i - 1 : Nat), by have := Lib.index_ge s sub; simp at *; omega⟩
        have ih := sub_index sub s j hj
        obtain rfl : i = j + 1 := by omega
        have e : j + 1 + sub.length = (j + sub.length) + 1 := by omega
        rw [e, List.take_succ_cons, List.drop_succ_cons, List.cons_append, ← ih]
theorem cut_ways (t : List UInt8) : (Lib.cut t [13, 10]).2.2 = false ∨ ((Lib.cut t [13, 10]).2.2 = true ∧ t = (Lib.cut t [13, 10]).1 ++ 13 :: 10 :: (Lib.cut t [13, 10]).2.1) := by
  unfold Lib.cut
  by_cases h : 0 ≤ Lib.index t [13, 10]
  · right
    rw [if_pos h]
    refine ⟨rfl, ?_⟩
    obtain ⟨i, hi⟩ := Int.eq_ofNat_of_zero_le h
    have := sub_index [13, 10] t i hi
    rw [hi]
    simpa using this
  · left
    rw [if_neg h]
def rightLen (x : List UInt8) (last : Bool) : Bool := if last then decide (1 ≤ x.length ∧ x.length ≤ 76) else decide (x.length = 76)
def linesF : Nat → List UInt8 → Option (List UInt8)
  | 0, t => if t = [] then some [] else none
  | f + 1, t => if t = [] then some [] else
    if (Lib.cut t [13, 10]).2.2 = true ∧ rightLen (Lib.cut t [13, 10]).1 (decide ((Lib.cut t [13, 10]).2.1 = [])) = true then
      (match linesF f (Lib.cut t [13, 10]).2.1 with
        | some r => some ((Lib.cut t [13, 10]).1 ++ r)
        | none => none)
    else none
theorem lines_nil (f : Nat) : linesF f [] = some [] := by
  cases f <;> simp [linesF]
theorem lines_fold_eq : ∀ (f : Nat) (t row : List UInt8), linesF f t = some row → foldB row = t
  | 0, t, row, h => by
    unfold linesF at h
    by_cases e : t = []
    · rw [if_pos e] at h; cases h; rw [fold_nil, e]
    · rw [if_neg e] at h; cases h
  | f + 1, t, row, h => by
    unfold linesF at h
    by_cases e : t = []
    · rw [if_pos e] at h; cases h; rw [fold_nil, e]
    · rw [if_neg e] at h
      rcases cut_ways t with hc | ⟨hc, ht⟩
      · rw [if_neg (by rw [hc]; simp)] at h; cases h
      · generalize Lib.cut t [13, 10] = cu at h hc ht
        obtain ⟨x, y, z⟩ := cu
        simp only at h hc ht
        by_cases hr : z = true ∧ rightLen x (decide (y = [])) = true
        · rw [if_pos hr] at h
          cases hl : linesF f y with
          | none => rw [hl] at h; cases h
          | some r =>
            rw [hl] at h
            simp only [Option.some.injEq] at h
            have ih := lines_fold_eq f y r hl
            have hrl := hr.2
            unfold rightLen at hrl
            by_cases hy : y = []
            · subst hy
              have hr0 : r = [] := by rw [lines_nil] at hl; cases hl; rfl
              simp only [decide_true, if_true, decide_eq_true_eq] at hrl
              rw [← h, hr0, List.append_nil, fold_cons (by intro e; rw [e] at hrl; simp at hrl), List.take_of_length_le hrl.2, List.drop_eq_nil_of_le hrl.2, fold_nil, ht]
            · simp only [hy, decide_false, Bool.false_eq_true, if_false, decide_eq_true_eq] at hrl
              rw [← h, fold_cons (by intro e; rw [List.append_eq_nil_iff] at e; rw [e.1] at hrl; simp at hrl), List.take_left' hrl, List.drop_left' hrl, ih, ht]
        · rw [if_neg hr] at h; cases h
theorem fold_lines_eq : ∀ (f : Nat) (l : List UInt8), (∀ c ∈ l, c ≠ 13) → (foldB l).length ≤ f → linesF f (foldB l) = some l
  | 0, l, _, hf => by
    have : l = [] := by
      by_cases e : l = []
      · exact e
      · rw [fold_cons e] at hf; simp at hf
    subst this
    rw [fold_nil, lines_nil]
  | f + 1, l, hl, hf => by
    by_cases e : l = []
    · subst e
      rw [fold_nil, lines_nil]
    · have hp : 0 < l.length := List.length_pos_iff.2 e
      have hc := fold_cons e
      have h13 : ∀ c ∈ l.take 76, c ≠ 13 := fun c hc => hl c (List.mem_of_mem_take hc)
      rw [hc] at hf ⊢
      rw [linesF, if_neg (by simp), end_cut _ _ h13]
      simp only
      have ih := fold_lines_eq f (l.drop 76) (fun c hc => hl c (List.mem_of_mem_drop hc)) (by simp only [List.length_append, List.length_cons] at hf; omega)
      have hr : rightLen (l.take 76) (decide (foldB (l.drop 76) = [])) = true := by
        unfold rightLen
        by_cases hd : l.drop 76 = []
        · rw [hd, fold_nil]
          have := List.drop_eq_nil_iff.1 hd
          simp only [decide_true, if_true, decide_eq_true_eq, List.length_take]
          omega
        · have hn : foldB (l.drop 76) ≠ [] := by rw [fold_cons hd]; simp
          have : ¬ l.length ≤ 76 := fun h => hd (List.drop_eq_nil_iff.2 h)
          simp only [hn, decide_false, Bool.false_eq_true, if_false, decide_eq_true_eq, List.length_take]
          omega
      simp only [hr, and_self, if_true, ih]
      simp
theorem unfold_lines (t : List UInt8) : unfoldB t = (match linesF t.length t with
    | some row => decB row
    | none => none) := by
  cases hu : unfoldB t with
  | some s =>
    have hf := fold_unfold hu
    have := fold_lines_eq t.length (encB s) (fun c hc => (ok_end (enc_ok s c hc)).1) (by rw [hf]; exact Nat.le_refl _)
    rw [hf] at this
    rw [this]
    exact (dec_enc s).symm
  | none =>
    cases hl : linesF t.length t with
    | none => rfl
    | some row =>
      have hf := lines_fold_eq _ t row hl
      simp only
      cases hd : decB row with
      | none => rfl
      | some s =>
        have he := enc_dec row s hd
        rw [← he] at hf
        rw [← hf, unfold_fold] at hu
        cases hu
end Go.Proofs.YtjikghndoklajaaGreatDoor
namespace Go.Proofs.YtjikghndoklajaaGreatDoor
open Go.RowKit

theorem rlen_any (x : ByteArray) (last : Bool) (w : World) : Calls Tryz.prog 73 #[.string x, .bool last] w fun e w' => e = .returned (.bool (rightLen x.data.toList last)) ∧ w' = w := by
  have hl : x.data.toList.length = x.size := rfl
  unfold rightLen
  rw [hl]
  cases last with
  | true =>
    rw [if_pos rfl]
    by_cases h1 : 1 ≤ x.size
    · by_cases h2 : x.size ≤ 76
      · rw [decide_eq_true ⟨h1, h2⟩]
        have hb : decide ((x.size : Int) ≤ 76) = true := decide_eq_true (by omega)
        clear hl
        go_enter Tryz.func73, Tryz.ntmps73
        go_wp2
        go_ret
        exact ⟨rfl, rfl⟩
      · rw [decide_eq_false (fun h => h2 h.2)]
        have hb : decide ((x.size : Int) ≤ 76) = false := decide_eq_false (by omega)
        clear hl
        go_enter Tryz.func73, Tryz.ntmps73
        go_wp2
        go_ret
        exact ⟨rfl, rfl⟩
    · rw [decide_eq_false (fun h => h1 h.1)]
      clear hl
      go_enter Tryz.func73, Tryz.ntmps73
      go_wp2
      go_ret
      exact ⟨rfl, rfl⟩
  | false =>
    rw [if_neg (by simp)]
    by_cases h1 : x.size = 76
    · rw [decide_eq_true h1]
      have hb : ((x.size : Int) == 76) = true := by rw [beq_iff_eq]; omega
      clear hl
      go_enter Tryz.func73, Tryz.ntmps73
      go_wp2
      go_ret
      exact ⟨rfl, rfl⟩
    · rw [decide_eq_false h1]
      have hb : ((x.size : Int) == 76) = false := by rw [beq_eq_false_iff_ne]; omega
      clear hl
      go_enter Tryz.func73, Tryz.ntmps73
      go_wp2
      go_ret
      exact ⟨rfl, rfl⟩

def strLen (v : Value) : Nat := match v with
  | .string s => s.size
  | _ => 0
theorem text_bytes (t : ByteArray) : t.toList = t.data.toList := by
  cases t with
  | mk d => cases d with
    | mk l => simp
theorem cell_in {w : World} {b : Nat} {v : Value} (h : w.cell? ⟨b, 0, none⟩ = some v) : b < w.heap.size := by
  rcases Nat.lt_or_ge b w.heap.size with h1 | h1
  · exact h1
  · rw [World.cell?, Array.getElem?_eq_none h1] at h
    simp at h

set_option maxRecDepth 100000 in
set_option maxHeartbeats 2000000 in
theorem unfold_any (s : ByteArray) (m : Int) (w : World) (hs : s.size ≤ 100000) (hm : w.cell? ⟨0, 0, none⟩ = some (.int .i64 m)) :
    Calls Tryz.prog 43 #[.string s] w fun e w' => e = .returned (decV (unfoldB s.data.toList)) ∧ Below w.heap.size w w' := by
  have hgrow := grow_new (s.size : Int) (by omega) (by omega) w
  have hmb := cell_in hm
  have Hu := Lib.hid (unfold_lines s.data.toList)
  have hsl : s.data.toList.length = s.size := rfl
  rw [hsl] at Hu
  clear hsl
  go_enter Tryz.func43, Tryz.ntmps43
  go_wp2_with (go_at_call 72; refine hgrow.mono ?_)
  rintro e w1 ⟨rfl, hb1, hw1⟩
  clear hgrow
  go_wp2
  go_loopw [0, 5, 6, 7] (fun sv _ _ _ wr => ∃ (cur : ByteArray) (acc : List UInt8) (f : Nat), sv = .string cur ∧ cur.size ≤ f ∧ cur.size + acc.length ≤ s.size ∧ Lib.BuilderAt 113 5 w.heap.size w.heap.size (.pointer (some ⟨w.heap.size, 0, none⟩)) (Lib.byteCells acc) wr ∧ Below w.heap.size w wr ∧
      linesF s.size s.data.toList = (match linesF f cur.data.toList with
        | some r => some (acc ++ r)
        | none => none)) (fun sv _ _ _ _ => strLen sv)
  case atStart => exact ⟨s, [], s.size, rfl, Nat.le_refl _, by simp, hb1, hw1, by cases linesF s.size s.data.toList <;> rfl⟩
  case round =>
    obtain ⟨cur, acc, f, rfl, hf, hla, hbd, hbr, hst⟩ := hrel
    have hbz := hbr.size
    have hm2 : wr.cell? ⟨0, 0, none⟩ = some (.int .i64 m) := (hbr.cell (p := ⟨0, 0, none⟩) hmb).trans hm
    by_cases h0 : cur.size = 0
    · have hce : cur.data.toList = [] := List.eq_nil_of_length_eq_zero h0
      have hce2 : cur = ⟨#[]⟩ := ByteArray.ext (Array.ext' hce)
      subst hce2
      rw [hce, lines_nil] at hst
      rw [hst] at Hu
      simp only [List.append_nil] at Hu
      have hstr := Tryz.Builder_String_any w.heap.size w.heap.size acc wr (.inr hbd) hbz
      clear hce hst
      go_wp2_with (go_at_call 76; refine hstr.mono ?_)
      rintro e w2 ⟨rfl, hw2⟩
      have hb2 := hbr.trans hw2
      have hdc := dec_any ⟨acc.toArray⟩ w2 (by have : (⟨acc.toArray⟩ : ByteArray).size = acc.length := rfl; omega)
      rw [show (⟨acc.toArray⟩ : ByteArray).data.toList = acc from rfl, ← Hu.out] at hdc
      obtain ⟨r, hr⟩ : ∃ r, unfoldB s.data.toList = r := ⟨_, rfl⟩
      rw [hr] at hdc
      have Hr := Lib.hid hr
      clear hstr hr Hu
      cases r with
      | none =>
        go_wp2_with (go_at_call 75; refine hdc.mono ?_)
        rintro e w3 ⟨rfl, hw3⟩
        unfold decV
        go_wp2
        go_ret2
        exact ⟨by rw [Hr.out]; rfl, hb2.trans (hw3.mono hb2.size)⟩
      | some l =>
        go_wp2_with (go_at_call 75; refine hdc.mono ?_)
        rintro e w3 ⟨rfl, hw3⟩
        unfold decV
        go_wp2
        go_ret2
        exact ⟨by rw [Hr.out]; rfl, hb2.trans (hw3.mono hb2.size)⟩
    · obtain ⟨f', rfl⟩ : ∃ f', f = f' + 1 := ⟨f - 1, by omega⟩
      have hne : (cur.toList == []) = false := by
        rw [text_bytes, beq_eq_false_iff_ne]
        intro e
        exact h0 (by have := congrArg List.length e; exact this)
      have hne2 : cur.data.toList ≠ [] := fun e => h0 (by have := congrArg List.length e; exact this)
      have hcut := Tryz.strings_Cut cur ⟨#[13, 10]⟩ m wr (by omega) hm2
      rw [show (⟨#[13, 10]⟩ : ByteArray).data.toList = [13, 10] from rfl] at hcut
      have hways := cut_ways cur.data.toList
      rw [linesF, if_neg hne2] at hst
      obtain ⟨⟨x, y, z⟩, hcu⟩ : ∃ cu, Lib.cut cur.data.toList [13, 10] = cu := ⟨_, rfl⟩
      rw [hcu] at hcut hways hst
      simp only at hcut hways hst
      obtain ⟨X, hX⟩ : ∃ X : ByteArray, X = ⟨x.toArray⟩ := ⟨_, rfl⟩
      obtain ⟨Y, hY⟩ : ∃ Y : ByteArray, Y = ⟨y.toArray⟩ := ⟨_, rfl⟩
      rw [← hX, ← hY] at hcut
      have hXl : X.data.toList = x := by rw [hX]
      have hYl : Y.data.toList = y := by rw [hY]
      have hXs : X.size = x.length := by rw [hX]; rfl
      have hYs : Y.size = y.length := by rw [hY]; rfl
      rcases hways with rfl | ⟨rfl, hcat⟩
      · have hst2 : linesF s.size s.data.toList = none := by rw [hst]; rfl
        rw [hst2] at Hu
        simp only at Hu
        clear hcu hst hst2 hX hY hXl hYl hne2
        go_wp2_with (go_at_call 61; refine hcut.mono ?_; rintro e w2 ⟨rfl, nq, rfl⟩)
        go_ret2
        exact ⟨by rw [Hu.out]; rfl, below_drewN hbr nq⟩
      · have hlen : cur.size = X.size + 2 + Y.size := by
          have := congrArg List.length hcat
          simp only [List.length_append, List.length_cons] at this
          have h2 : cur.data.toList.length = cur.size := rfl
          omega
        have hrl := fun W => rlen_any X (decide (y = [])) W
        rw [hXl] at hrl
        have hYe : (Y.toList == []) = decide (y = []) := by
          rw [text_bytes, hYl]
          cases y <;> rfl
        obtain ⟨last, hlast⟩ : ∃ last, decide (y = []) = last := ⟨_, rfl⟩
        rw [hlast] at hrl hYe hst
        cases hr : rightLen x last with
        | false =>
          rw [hr] at hst hrl
          have hst2 : linesF s.size s.data.toList = none := by rw [hst]; rfl
          rw [hst2] at Hu
          simp only at Hu
          clear hcu hst hst2 hX hY hXl hYl hne2 hcat hr hlast
          go_wp2_with (first | (go_at_call 61; refine hcut.mono ?_; rintro e w2 ⟨rfl, nq, rfl⟩) | (go_at_call 73; refine (hrl _).mono ?_; rintro e w3 ⟨rfl, hw3⟩; obtain rfl := hw3.symm; clear hw3))
          go_ret2
          exact ⟨by rw [Hu.out]; rfl, below_drewN hbr nq⟩
        | true =>
          rw [hr] at hst hrl
          have hst2 : linesF s.size s.data.toList = (match linesF f' y with
              | some r => some (acc ++ x ++ r)
              | none => none) := by
            rw [hst]
            simp only [and_self, if_true]
            cases linesF f' y with
            | none => rfl
            | some r => simp
          have Hst2 := Lib.hid hst2
          have HYl := Lib.hid hYl
          have hcx : Lib.byteCells acc ++ Lib.strCells X = Lib.byteCells (acc ++ x) := by rw [hX, Lib.byteCells_append]; rfl
          have hbw : ∀ n, Calls Tryz.prog 74 #[.pointer (some ⟨w.heap.size, 0, none⟩), .string X] (wr.drewN n) fun e w' => e = .returned (.tuple #[.int .i64 X.size, .nilIface]) ∧ (Lib.BuilderAt 113 5 w.heap.size w.heap.size (.pointer (some ⟨w.heap.size, 0, none⟩)) (Lib.byteCells (acc ++ x)) w' ∧ Below w.heap.size (wr.drewN n) w') := fun n => by
            have := bwrite_any w.heap.size w.heap.size (Lib.byteCells acc) X (wr.drewN n) (.inr hbd) (by rw [Lib.byteCells_length]; omega) hbz
            rw [hcx] at this
            exact this
          clear hcu hst hst2 hX hY hXl hYl hne2 hcat hr hlast
          go_wp2_with (first | (go_at_call 61; refine hcut.mono ?_; rintro e w2 ⟨rfl, nq, rfl⟩) | (go_at_call 73; refine (hrl _).mono ?_; rintro e w3 ⟨rfl, hw3⟩; obtain rfl := hw3.symm; clear hw3) | (go_at_call 74; refine (hbw _).mono ?_; rintro e w4 ⟨rfl, hb4, hw4⟩))
          exact ⟨⟨Y, acc ++ x, f', rfl, by omega, by rw [List.length_append]; omega, hb4, (below_drewN hbr nq).trans hw4, by rw [Hst2.out, HYl.out]⟩, by unfold strLen; simp only; omega⟩
end Go.Proofs.YtjikghndoklajaaGreatDoor
