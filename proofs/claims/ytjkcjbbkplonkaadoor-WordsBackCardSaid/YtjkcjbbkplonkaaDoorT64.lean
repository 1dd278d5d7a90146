/-
  base64's table of worths: made, wherever it lies; and letters decoded by it.
-/
import Derived.Test.YtjkcjbbkplonkaaDoorE64
import Derived.Test.YtjkcjbbkplonkaaDoorT64P
import Derived.Test.YtjkcjbbkplonkaaDoorR3D
namespace Go.Proofs.YtjkcjbbkplonkaaDoor
open Go.RowKit

/-- The block b holds, from the cell k on, 256 numbers f. -/
def TabIs (cs : Array Value) (k : Nat) (f : Nat → Nat) : Prop := ∀ i, i < 256 → cs[k + i]? = some (.int .u8 (f i : Int))
/-- Cells of a block but for the 256 from k on are as they were. -/
def SameBut (cs cs' : Array Value) (k : Nat) : Prop := cs'.size = cs.size ∧ ∀ j, (j < k ∨ k + 256 ≤ j) → cs'[j]? = cs[j]?
/-- A block of cells. -/
def Held (w : World) (b : Nat) (cs : Array Value) (T : TypeId) : Prop := w.heap[b]? = some (.cells cs T (0, 0))
section
variable {w : World} {b : Nat} {cs : Array Value} {T : TypeId}
theorem Held.cell (h : Held w b cs T) (j : Nat) : w.cell? ⟨b, j, none⟩ = cs[j]? := Lib.cell_of_heap h j
theorem Held.frozen (h : Held w b cs T) (j : Nat) : w.frozen? ⟨b, j, none⟩ = false := Lib.frozen_of_heap h j
theorem Held.lt (h : Held w b cs T) : b < w.heap.size := (Array.getElem?_eq_some_iff.1 h).1
theorem Held.set_ (h : Held w b cs T) (j : Nat) (v : Value) : Held (w.setCell ⟨b, j, none⟩ v) b (cs.setIfInBounds j v) T := by
  unfold Held at h ⊢
  simp [World.setCell, Array.getElem?_modify, h]
theorem Held.drewN (h : Held w b cs T) (n : Nat) : Held (w.drewN n) b cs T := h
theorem set_get (cs : Array Value) (j i : Nat) (v : Value) (hj : j < cs.size) : (cs.setIfInBounds j v)[i]? = if i = j then some v else cs[i]? := by
  rw [Array.getElem?_setIfInBounds]
  by_cases h : i = j
  · subst h; simp [hj]
  · rw [if_neg (fun e => h e.symm), if_neg h]
theorem SameBut.set_ {cs0 : Array Value} {k : Nat} (h : SameBut cs0 cs k) {i : Nat} (hi : i < 256) (v : Value) (hk : k + 256 ≤ cs0.size) : SameBut cs0 (cs.setIfInBounds (k + i) v) k :=
  ⟨by rw [Array.size_setIfInBounds]; exact h.1, fun j hj => by rw [set_get _ _ _ _ (by rw [h.1]; omega), if_neg (by omega)]; exact h.2 j hj⟩
theorem TabIs.set_at {k : Nat} {f g : Nat → Nat} (h : TabIs cs k f) {i n : Nat} (hi : i < 256) (hk : k + 256 ≤ cs.size) (hg : ∀ j, j < 256 → g j = if j = i then n else f j) : TabIs (cs.setIfInBounds (k + i) (.int .u8 (n : Int))) k g := fun j hj => by
  rw [set_get _ _ _ _ (by omega), hg j hj]
  by_cases e : j = i
  · rw [if_pos (by omega), if_pos e]
  · rw [if_neg (by omega), if_neg e]; exact h j hj
theorem TabIs.set_ {k : Nat} {f g : Nat → Nat} (h : TabIs cs k f) {i n : Nat} (hi : i < 256) (hk : k + 256 ≤ cs.size) (hg : ∀ j, g j = if j = i then n else f j) : TabIs (cs.setIfInBounds (k + i) (.int .u8 (n : Int))) k g := fun j hj => by
  rw [set_get _ _ _ _ (by omega), hg j]
  by_cases e : j = i
  · rw [if_pos (by omega), if_pos e]
  · rw [if_neg (by omega), if_neg e]; exact h j hj
theorem grown_drew {w w0 : World} {b : Nat} (h : w0.grownBy w (some b)) : w0.grownBy w.drew (some b) := ⟨h.os, h.tape, h.output, h.size, h.block⟩
theorem grown_set {w w0 : World} {b : Nat} (h : w0.grownBy w (some b)) (j : Nat) (v : Value) : w0.grownBy (w.setCell ⟨b, j, none⟩ v) (some b) :=
  ⟨h.os, h.tape, h.output, by simpa [World.setCell] using h.size, fun i hi hne => (Below.heap_setCell w ⟨b, j, none⟩ v i (fun e => hne (by rw [e]))).trans (h.block i hi hne)⟩
end

set_option maxRecDepth 100000 in
set_option maxHeartbeats 2000000 in
theorem build_any (b k : Nat) (cs : Array Value) (T : TypeId) (f0 : Nat → Nat) (w : World) (h : Held w b cs T) (hk : k + 256 ≤ cs.size) (h0 : TabIs cs k f0) :
    Calls Tryd.prog 41 #[.pointer (some ⟨b, k, none⟩)] w fun e w' => e = .returned (.tuple #[]) ∧ ∃ cs', Held w' b cs' T ∧ SameBut cs cs' k ∧ TabIs cs' k (tabV 64) ∧ w.grownBy w' (some b) := by
  go_enter Tryd.func41, Tryd.ntmps41
  go_wp2
  go_loopw [2, 4] (fun _ iv wr => ∃ (i : Nat) (c1 : Array Value), i ≤ 256 ∧ iv = .int .i64 i ∧ Held wr b c1 T ∧ SameBut cs c1 k ∧ TabIs c1 k (fun j => if j < i then 64 else f0 j) ∧ w.grownBy wr (some b)) (fun _ iv _ => 256 - (intOf iv).toNat)
  case atStart => exact ⟨0, cs, by omega, rfl, h, ⟨rfl, fun _ _ => rfl⟩, h0, ⟨rfl, rfl, rfl, Nat.le_refl _, fun _ _ _ => rfl⟩⟩
  case round =>
    obtain ⟨i, c1, hi, rfl, hh, hsb, htab, hg⟩ := hrel
    by_cases hlt : i < 256
    · have hc := hh.cell (k + i)
      rw [htab i hlt] at hc
      have hf := hh.frozen (k + i)
      go_wp2
      refine ⟨⟨i + 1, _, by omega, by go_num, hh.set_ (k + i) _, hsb.set_ hlt _ hk, ?_, grown_set hg _ _⟩, by simp [intOf]; omega⟩
      exact htab.set_ hlt (by rw [hsb.1]; omega) (n := 64) fun j => by
        by_cases hj : j = i
        · rw [if_pos hj, if_pos (by omega)]
        · rw [if_neg hj]
          by_cases h2 : j < i
          · rw [if_pos (by omega), if_pos h2]
          · rw [if_neg (by omega), if_neg h2]
    · have ht0 : TabIs c1 k (tabV 0) := fun j hj => by
        have := htab j hj
        simp only at this
        rw [if_pos (by omega)] at this
        rw [this, tab_zero]
      clear htab
      go_wp2
      go_loopw [3, 12] (fun _ iv wr => ∃ (i : Nat) (c1 : Array Value), i ≤ 64 ∧ iv = .int .i64 i ∧ Held wr b c1 T ∧ SameBut cs c1 k ∧ TabIs c1 k (tabV i) ∧ w.grownBy wr (some b)) (fun _ iv _ => 64 - (intOf iv).toNat)
      case atStart => exact ⟨0, c1, by omega, rfl, hh, hsb, ht0, hg⟩
      case round =>
        obtain ⟨i, c2, hi, rfl, hh, hsb, htab, hg⟩ := hrel
        by_cases hlt : i < 64
        · have hL := alphabet_at i hlt
          have hlb : (letterB i).toNat < 256 := (letterB i).toNat_lt
          have hc := hh.cell (k + (letterB i).toNat)
          rw [htab _ hlb] at hc
          have hf := hh.frozen (k + (letterB i).toNat)
          have Hst := Lib.hid fun j (hj : j < 256) => tab_step i j hlt hj
          obtain ⟨x, hx⟩ : ∃ x, letterB i = x := ⟨_, rfl⟩
          rw [hx] at hL hlb hc hf Hst
          clear hx
          go_wp2
          go_region
          go_wp2
          go_roundw
          case rel => exact ⟨i + 1, _, by omega, by go_num, hh.set_ (k + x.toNat) _, hsb.set_ hlb _ hk, htab.set_at hlb (by rw [hsb.1]; omega) fun j hj => Hst.out j hj, grown_drew (grown_set hg _ _)⟩
          case measure => simp [intOf]; omega
        · obtain rfl : i = 64 := by omega
          go_wp2
          go_end0
          exact ⟨rfl, c2, hh, hsb, htab, hg⟩

theorem trim_lib (l : List UInt8) : Lib.trimSuffix l [61] = trimB l := by
  unfold Lib.trimSuffix trimB Lib.hasSuffix
  have h : ([61].isSuffixOf l = true) ↔ l.getLast? = some 61 := by
    rw [List.isSuffixOf_iff_suffix]
    constructor
    · rintro ⟨t, rfl⟩
      simp
    · intro e
      rcases List.eq_nil_or_concat l with rfl | ⟨t, a, rfl⟩
      · simp at e
      · simp at e
        subst e
        exact ⟨t, by simp⟩
  by_cases e : l.getLast? = some 61
  · rw [if_pos e, if_pos (h.2 e), List.dropLast_eq_take]
    rfl
  · rw [if_neg e, if_neg (fun x => e (h.1 x))]

theorem or_in (v x : Nat) (hv : v < 128) (hx : x < 64) : bits BinOp.or IntKind.u32 ((v : Int) * 64) (x : Int) = ((v * 64 + x : Nat) : Int) := by
  have e : (v : Int) * 64 = ((v * 2 ^ 6 : Nat) : Int) := by push_cast; omega
  rw [e, or_u32 _ _ (by omega) (by omega), or_add v x 6 (by omega)]

theorem mask_in (z m : Nat) (hz : z < 8192) (hm : m ≤ 6) : bits BinOp.and IntKind.u32 (z : Int) ((2 ^ m - 1) % 4294967296) = ((z % 2 ^ m : Nat) : Int) := by
  have h1 : 2 ^ m ≤ 2 ^ 6 := Nat.pow_le_pow_right (by omega) hm
  have h0 : 0 < 2 ^ m := Nat.two_pow_pos m
  have e : ((2 : Int) ^ m - 1) % 4294967296 = 2 ^ m - 1 := by
    have e2 : (2 : Int) ^ m = ((2 ^ m : Nat) : Int) := by push_cast; rfl
    rw [e2]
    generalize 2 ^ m = q at h1 h0 ⊢
    omega
  rw [e, mask_u32 z m (by omega) (by omega)]

set_option maxRecDepth 100000 in
set_option maxHeartbeats 2000000 in
theorem decode_any (b k : Nat) (cs : Array Value) (T : TypeId) (s : ByteArray) (w : World) (h : Held w b cs T) (ht : TabIs cs k (tabV 64)) (hs : s.size ≤ 100000000) :
    Calls Tryd.prog 42 #[.pointer (some ⟨b, k, none⟩), .string s] w fun e w' => e = .returned (decV (decB s.data.toList)) ∧ Below w.heap.size w w' := by
  rw [← dev_dec]
  have hblt := h.lt
  have hl : s.data.toList.length = s.size := rfl
  have Hl := Lib.hid hl
  by_cases h4 : s.size % 4 = 0
  · have hd4 : ((s.size : Int) % 4 != 0) = false := by
      rw [bne_eq_false_iff_eq]; omega
    have hgrow := grow_new ((s.size : Int) / 4 * 3) (by omega) (by omega) w
    obtain ⟨r1, hr1⟩ : ∃ r1 : ByteArray, r1 = ⟨(trimB s.data.toList).toArray⟩ := ⟨_, rfl⟩
    obtain ⟨r, hr⟩ : ∃ r : ByteArray, r = ⟨(trimB (trimB s.data.toList)).toArray⟩ := ⟨_, rfl⟩
    have hz1 : r1.size ≤ s.size := by rw [hr1]; exact trim_le _
    have hz2 : r.size ≤ s.size := by rw [hr]; exact Nat.le_trans (trim_le _) (trim_le _)
    have t1 := Tryd.strings_TrimSuffix s ⟨#[61]⟩ w (by omega)
    have t2 := Tryd.strings_TrimSuffix r1 ⟨#[61]⟩ w (by omega)
    rw [show (⟨#[61]⟩ : ByteArray).data.toList = [61] from rfl, trim_lib, ← hr1] at t1
    rw [show (⟨#[61]⟩ : ByteArray).data.toList = [61] from rfl, trim_lib, show r1.data.toList = trimB s.data.toList by rw [hr1], ← hr] at t2
    have hdv : devDecB s.data.toList = (match devS 0 0 [] r.data.toList with
        | some (v, out) => if v = 0 then some out else none
        | none => none) := by
      unfold devDecB
      rw [if_neg (by omega), hr]
      rfl
    have Hdv := Lib.hid hdv
    have hrl : r.data.toList.length = r.size := rfl
    have Hrl := Lib.hid hrl
    clear hdv hr hr1 hl hrl
    go_enter Tryd.func42, Tryd.ntmps42
    go_wp2_with (first | (go_at_call 55; refine t1.mono ?_; rintro e w' ⟨rfl, hw'⟩; obtain rfl := hw'.symm; clear hw') | (go_at_call 55; refine t2.mono ?_; rintro e w' ⟨rfl, hw'⟩; obtain rfl := hw'.symm; clear hw') | (go_at_call 25; refine hgrow.mono ?_; rintro e w1 ⟨rfl, hb1, hw1⟩))
    clear t1 t2 hgrow
    go_loopw [8, 9, 10, 11, 26] (fun hv nv _ _ iv wr => ∃ (i v n : Nat) (out : List UInt8), i ≤ r.size ∧ iv = .int .i64 i ∧ hv = .int .u32 v ∧ nv = .int .i64 n ∧ n < 8 ∧ v < 2 ^ n ∧ out.length ≤ i ∧ Lib.BuilderAt 36 5 w.heap.size w.heap.size (.pointer (some ⟨w.heap.size, 0, none⟩)) (Lib.byteCells out) wr ∧ Below w.heap.size w wr ∧ devS 0 0 [] r.data.toList = devS v n out (r.data.toList.drop i)) (fun _ _ _ _ iv _ => r.size - (intOf iv).toNat)
    case atStart => exact ⟨0, 0, 0, [], Nat.zero_le _, rfl, rfl, rfl, by omega, by omega, Nat.le_refl _, hb1, hw1, rfl⟩
    case round =>
      obtain ⟨i, v, n, out, hi1, rfl, rfl, rfl, hn, hv, hol, hbd, hbr, hst⟩ := hrel
      have Hst := Lib.hid hst
      have hbz := hbr.size
      clear hst
      by_cases hlt : i < r.size
      · have hdr : r.data.toList.drop i = r[i] :: r.data.toList.drop (i + 1) := by
          rw [List.drop_eq_getElem_cons (by rw [Hrl.out]; exact hlt)]
          rfl
        have Hdr := Lib.hid hdr
        obtain ⟨c, hc⟩ : ∃ c, r[i] = c := ⟨_, rfl⟩
        rw [hc] at hdr
        clear Hdr
        have Hdr := Lib.hid hdr
        have hcl : c.toNat < 256 := c.toNat_lt
        have hcell : wr.cell? ⟨b, k + c.toNat, none⟩ = some (.int .u8 (tabV 64 c.toNat : Int)) := by
          rw [hbr.cell (p := ⟨b, k + c.toNat, none⟩) hblt, h.cell, ht _ hcl]
        clear hdr
        cases hw : worthB c with
        | none =>
          rw [tab_none hw] at hcell
          have Hf : Hid (devDecB s.data.toList = none) := Lib.hid (by rw [Hdv.out, Hst.out, Hdr.out, devS, hw])
          clear hw
          go_wp2
          go_region
          go_wp2
          go_ret2
          exact ⟨by rw [Hf.out]; rfl, below_drewN hbr 1⟩
        | some x =>
          obtain ⟨hx1, hx⟩ := tab_some hw
          rw [hx1] at hcell
          clear hx1
          have hv128 : v < 128 := Nat.lt_of_lt_of_le hv (show 2 ^ n ≤ 2 ^ 7 from Nat.pow_le_pow_right (by omega) (by omega))
          have hor := or_in v x hv128 hx
          by_cases h8 : 8 ≤ n + 6
          · have Hn : Hid (devS 0 0 [] r.data.toList = devS ((v * 64 + x) % 2 ^ (n + 6 - 8)) (n + 6 - 8) (out ++ [UInt8.ofNat ((v * 64 + x) / 2 ^ (n + 6 - 8))]) (r.data.toList.drop (i + 1))) := Lib.hid (by
              rw [Hst.out, Hdr.out, devS, hw]
              simp only
              rw [if_pos h8])
            have Hy : Hid (((UInt8.ofNat ((v * 64 + x) / 2 ^ (n + 6 - 8))).toNat : Int) = ((v * 64 + x : Nat) : Int) / 2 ^ (n - 2) % 256) := Lib.hid (by
              rw [UInt8.toNat_ofNat', show n + 6 - 8 = n - 2 by omega]
              push_cast
              rfl)
            clear hw
            obtain ⟨z, hz⟩ : ∃ z, v * 64 + x = z := ⟨_, rfl⟩
            rw [hz] at hor Hy Hn
            go_wp2
            go_region
            have hwr := wbyte_any w.heap.size w.heap.size out (UInt8.ofNat (z / 2 ^ (n + 6 - 8))) wr.drew (.inr hbd) (by omega) hbz
            rw [Hy.out] at hwr
            go_wp2_with (go_at_call 36; refine hwr.mono ?_)
            rintro e w2 ⟨rfl, hb2, hw2⟩
            clear hwr Hy hor
            have Hv := Lib.hid hv
            clear hv
            have hzb : z < 8192 := by omega
            clear hbd hcell h hz
            go_wp2
            refine ⟨⟨i + 1, z % 2 ^ (n - 2), n - 2, out ++ [UInt8.ofNat (z / 2 ^ (n + 6 - 8))], by omega, by go_num, by rw [mask_in z (n - 2) hzb (by omega)], by congr 1; omega, by omega, Nat.mod_lt _ (Nat.two_pow_pos _), by rw [List.length_append]; show _ + 1 ≤ _; omega, hb2, (below_drewN hbr 1).trans (hw2.mono (Nat.le_refl _)), ?_⟩, by simp [intOf]; omega⟩
            rw [Hn.out, show n + 6 - 8 = n - 2 by omega]
          · have Hn : Hid (devS 0 0 [] r.data.toList = devS (v * 64 + x) (n + 6) out (r.data.toList.drop (i + 1))) := Lib.hid (by
              rw [Hst.out, Hdr.out, devS, hw]
              simp only
              rw [if_neg h8])
            have hv2 : v * 64 + x < 2 ^ (n + 6) := by rw [Nat.pow_add]; omega
            have Hv2 := Lib.hid hv2
            clear hw hv2
            go_wp2
            go_region
            go_wp2
            exact ⟨⟨i + 1, v * 64 + x, n + 6, out, by omega, by go_num, by push_cast; rfl, by push_cast; rfl, by omega, Hv2.out, by omega, hbd, below_drewN hbr 1, Hn.out⟩, by simp [intOf]; omega⟩
      · obtain rfl : i = r.size := by omega
        have hdr : r.data.toList.drop r.size = [] := List.drop_eq_nil_of_le (by rw [Hrl.out]; exact Nat.le_refl _)
        have Hend : Hid (devDecB s.data.toList = if v = 0 then some out else none) := Lib.hid (by rw [Hdv.out, Hst.out, hdr]; rfl)
        clear hdr
        by_cases hv0 : v = 0
        · have hne : ((v : Int) != 0) = false := by rw [bne_eq_false_iff_eq]; omega
          have hstr := Tryd.Builder_String_any w.heap.size w.heap.size out wr (.inr hbd) hbz
          go_wp2_with (go_at_call 18; refine hstr.mono ?_)
          rintro e w2 ⟨rfl, hw2⟩
          go_wp2
          go_ret2
          exact ⟨by rw [Hend.out, if_pos hv0]; rfl, hbr.trans hw2⟩
        · have hne : ((v : Int) != 0) = true := by rw [bne_iff_ne]; omega
          go_wp2
          go_ret2
          exact ⟨by rw [Hend.out, if_neg hv0]; rfl, hbr⟩
  · have hf : devDecB s.data.toList = none := by
      unfold devDecB
      rw [if_pos (by omega)]
    have Hf := Lib.hid hf
    clear hf
    have hd4 : ((s.size : Int) % 4 != 0) = true := by
      rw [bne_iff_ne]; omega
    have hb0 := Below.refl w.heap.size w
    go_enter Tryd.func42, Tryd.ntmps42
    go_wp2
    go_ret2
    exact ⟨by rw [Hf.out]; rfl, hb0⟩
theorem below_grown_at {w w' : World} {N B : Nat} (h : w.grownBy w' (some N)) (hB : B ≤ w.heap.size) (hN : B ≤ N) : Below B w w' := (Below.refl _ _).grown h hB fun k e => by cases e; exact hN
end Go.Proofs.YtjkcjbbkplonkaaDoor
