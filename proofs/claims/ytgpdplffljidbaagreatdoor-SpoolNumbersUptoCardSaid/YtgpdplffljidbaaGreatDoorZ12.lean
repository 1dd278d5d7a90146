/-
  Texts of this proof, put together: Sh1, Sh3, Sh4.
-/
import Derived.Test.YtgpdplffljidbaaGreatDoorRows
import Derived.WalkKit
import Derived.WalkSpells
import Derived.IntWalk
import Derived.Lib.Hide
import Derived.Laws.BitsAllLaws
import Derived.Test.YtgpdplffljidbaaGreatDoorZ11
import Derived.Deep.QuietTactic
import Derived.BigQuiet
import Derived.RegionTactic
import Derived.Test.YtgpdplffljidbaaGreatDoorZ03
import Derived.OwnWalk
namespace Go.Proofs.YtgpdplffljidbaaGreatDoor
open Go.RowKit

def turnW (x : Int) (k : Nat) : Int := bits .or .u32 (x * 2 ^ (32 - k) % 4294967296) (x / 2 ^ k)
theorem shift_back : ∀ k : Fin 32, bits BinOp.and IntKind.u64 (IntKind.u64.wrap (-((k.val : Nat) : Int))) 31 = (((32 - k.val) % 32 : Nat) : Int) := by decide +kernel

theorem rot_any (x : Int) (k : Nat) (h1 : 1 ≤ k) (h2 : k ≤ 31) (w : World) :
    Calls Tryz.prog 171 #[.int .u32 x, .int .i64 (-(k : Int))] w fun e w' => e = .returned (.int .u32 (turnW x k)) ∧ w' = w := by
  have hs := shift_back ⟨k, by omega⟩
  simp only at hs
  rw [show (32 - k) % 32 = 32 - k by omega] at hs
  obtain ⟨s, hsk⟩ : ∃ s, 32 - k = s := ⟨_, rfl⟩
  obtain ⟨z, hz⟩ : ∃ z : Int, -(k : Int) = z := ⟨_, rfl⟩
  have hk : k = 32 - s := by omega
  unfold turnW
  rw [hsk]
  rw [hsk, hz] at hs
  rw [hz]
  have Hk := Lib.hid hk
  have Hs := Lib.hid (show k ≤ 31 ∧ s ≤ 31 by omega)
  clear hsk hz hk h1 h2
  go_enter Tryz.func171, Tryz.ntmps171
  go_wp2
  go_ret
  refine ⟨?_, rfl⟩
  have h3 := Hs.out
  have h2 : IntKind.u64.wrap (32 - (s : Int)) = (k : Int) := by
    have := Hk.out
    rw [IntKind.wrap_u64]
    omega
  show Ending.returned (Value.int IntKind.u32 (bits BinOp.or IntKind.u32 (x * 2 ^ min s 32 % 4294967296) (x / 2 ^ min (IntKind.u64.wrap (32 - ↑s)).toNat 32))) = _
  rw [h2, show min s 32 = s by omega, show min (k : Int).toNat 32 = k by omega]

theorem turned_any (x : Int) (k : Nat) (h1 : 1 ≤ k) (h2 : k ≤ 31) (w : World) :
    Calls Tryz.prog 166 #[.int .u32 x, .int .i64 (k : Int)] w fun e w' => e = .returned (.int .u32 (turnW x k)) ∧ w' = w := by
  have h := rot_any x k h1 h2 w
  go_enter Tryz.func166, Tryz.ntmps166
  go_wp2_with (go_at_call 171; refine h.mono ?_; rintro e w' ⟨rfl, rfl⟩)
  go_ret
  exact ⟨rfl, rfl⟩
theorem turned_z (x z : Int) (h1 : 1 ≤ z) (h2 : z ≤ 31) (w : World) :
    Calls Tryz.prog 166 #[.int .u32 x, .int .i64 z] w fun e w' => e = .returned (.int .u32 (turnW x z.toNat)) ∧ w' = w := by
  have := turned_any x z.toNat (by omega) (by omega) w
  rw [show ((z.toNat : Nat) : Int) = z by omega] at this
  exact this
end Go.Proofs.YtgpdplffljidbaaGreatDoor
namespace Go.Proofs.YtgpdplffljidbaaGreatDoor
open Go.RowKit

def wordsV (l : List Int) : List Value := l.map (.int .u32)
def WordsAt (w : World) (b : Nat) (l : List Int) (T : TypeId) : Prop := w.heap[b]? = some (.cells (wordsV l).toArray T (0, 0))
section
variable {w w' : World} {b : Nat} {l : List Int} {T : TypeId}
theorem WordsAt.lt (h : WordsAt w b l T) : b < w.heap.size := (Array.getElem?_eq_some_iff.1 h).1
theorem WordsAt.keep {S : Nat → Prop} (h : WordsAt w b l T) (t : Turned S w w') (hs : ¬ S b) : WordsAt w' b l T := t.heap h hs
theorem WordsAt.cell (h : WordsAt w b l T) {j : Nat} (hj : j < l.length) : w.cell? ⟨b, j, none⟩ = some (.int .u32 (l[j]?.getD 0)) := by
  rw [Lib.cell_of_heap h]
  simp [wordsV, hj]
theorem WordsAt.frozen (h : WordsAt w b l T) (j : Nat) : w.frozen? ⟨b, j, none⟩ = false := Lib.frozen_of_heap h j
theorem WordsAt.set (h : WordsAt w b l T) (j : Nat) (x : Int) : WordsAt (w.setCell ⟨b, j, none⟩ (.int .u32 x)) b (l.set j x) T := by
  unfold WordsAt
  rw [set_block h]
  congr 2
  apply Array.ext'
  simp [wordsV, List.map_set]
end
def sprA (s : List UInt8) : Nat → List Int
  | 0 => List.replicate 64 0
  | i + 1 => (sprA s i).set i (numB ((s.drop (4 * i)).take 4))
theorem sprA_len (s : List UInt8) : ∀ i, (sprA s i).length = 64
  | 0 => List.length_replicate ..
  | i + 1 => by rw [sprA, List.length_set, sprA_len s i]
def lowW (x : Int) : Int := bits .xor .u32 (bits .xor .u32 (turnW x 7) (turnW x 18)) (x / 8)
def highW (x : Int) : Int := bits .xor .u32 (bits .xor .u32 (turnW x 17) (turnW x 19)) (x / 1024)
def nextW (l : List Int) (i : Nat) : Int := (l[i - 16]?.getD 0 + lowW (l[i - 15]?.getD 0) + l[i - 7]?.getD 0 + highW (l[i - 2]?.getD 0)) % 4294967296
def sprB (l : List Int) : Nat → List Int
  | 0 => l
  | k + 1 => (sprB l k).set (16 + k) (nextW (sprB l k) (16 + k))
theorem sprB_len (l : List Int) : ∀ k, (sprB l k).length = l.length
  | 0 => rfl
  | k + 1 => by rw [sprB, List.length_set, sprB_len l k]
def spreadP (s : List UInt8) : List Int := sprB (sprA s 16) 48
theorem spread_len (s : List UInt8) : (spreadP s).length = 64 := by rw [spreadP, sprB_len, sprA_len]

set_option maxRecDepth 100000 in
set_option maxHeartbeats 4000000 in
theorem spread_any (s : ByteArray) (hs : s.size = 64) (w : World) :
    Calls Tryz.prog 165 #[.string s] w fun e w' => e = .returned (.agg (wordsV (spreadP s.data.toList)).toArray) ∧ Below w.heap.size w w' := by
  have Hs := Lib.hid hs
  have hb0 := Below.refl w.heap.size w
  have Hz : Hid (∀ W : World, WordsAt (W.alloc (.cells (Array.replicate 64 (.int .u32 0)) 106)) W.heap.size (List.replicate 64 0) 106) := Lib.hid fun W => by
    unfold WordsAt wordsV
    rw [heap_alloc_new, List.map_replicate, List.toArray_replicate]
  clear hs
  go_enter Tryz.func165, Tryz.ntmps165
  go_wp2
  have hstart : ∀ o1 o2, o1 = Obj.cells (Array.replicate 64 (.int .u32 0)) 106 → o2 = Obj.cells (Array.replicate 64 (.int .u32 0)) 106 → WordsAt ((w.alloc o1).alloc o2) (w.heap.size + 1) (List.replicate 64 0) 106 ∧ WordsAt ((w.alloc o1).alloc o2) w.heap.size (List.replicate 64 0) 106 ∧ Below w.heap.size w ((w.alloc o1).alloc o2) := fun o1 o2 e1 e2 => by
    subst e1 e2
    have h1 := Hz.out w
    have h2 := Hz.out (w.alloc (.cells (Array.replicate 64 (.int .u32 0)) 106))
    rw [show (w.alloc (.cells (Array.replicate 64 (.int .u32 0)) 106)).heap.size = w.heap.size + 1 by simp] at h2
    exact ⟨h2, h1.keep (S := fun _ => False) (Turned.of_below ((Below.refl _ _).alloc (Nat.le_refl _) _) (Nat.le_refl _)) (fun h => h), (hb0.alloc (Nat.le_refl _) _).alloc (by simp) _⟩
  go_loopw [8] (fun iv wr => ∃ i : Nat, i ≤ 16 ∧ iv = .int .i64 i ∧ WordsAt wr (w.heap.size + 1) (sprA s.data.toList i) 106 ∧ WordsAt wr w.heap.size (List.replicate 64 0) 106 ∧ Below w.heap.size w wr) (fun iv _ => 16 - (intOf iv).toNat)
  case atStart =>
    refine ⟨0, by omega, rfl, hstart _ _ ?_ ?_⟩
    · kernel_rfl
    · kernel_rfl
  case round =>
    obtain ⟨i, hi, rfl, ha, hz, hb⟩ := hrel
    clear hstart
    by_cases hlt : i < 16
    · have hc := ha.cell (j := i) (by rw [sprA_len]; omega)
      have hf := ha.frozen i
      have hn := num_any (s.extract (4 * i) (4 * i + 4)) (by rw [ByteArray.size_extract]; omega) wr
      have hx : (s.extract (4 * i) (4 * i + 4)).data.toList = (s.data.toList.drop (4 * i)).take 4 := by
        rw [Lib.extract_data]
        simp
      rw [hx] at hn
      have hset := ha.set i (numB ((s.data.toList.drop (4 * i)).take 4))
      have hz2 := hz.keep (S := fun b => b = w.heap.size + 1) (Turned.set (N := w.heap.size + 1) (j := i) (v := .int .u32 (numB ((s.data.toList.drop (4 * i)).take 4))) rfl) (by omega)
      have hb2 : Below w.heap.size w (wr.setCell ⟨w.heap.size + 1, i, none⟩ (.int .u32 (numB ((s.data.toList.drop (4 * i)).take 4)))) := hb.setCell (by simp) _
      have H := Lib.hid (And.intro hset (And.intro hz2 hb2))
      have Hss := Hs.out
      obtain ⟨n, hnn⟩ : ∃ n, numB ((s.data.toList.drop (4 * i)).take 4) = n := ⟨_, rfl⟩
      have Hnn := Lib.hid hnn
      rw [hnn] at hn H
      clear hset hz2 hb2 ha hz hb hx hnn
      have hsz2 : s.size < 65 := by omega
      have hsz3 : 63 < s.size := by omega
      clear Hss
      go_wp2_with (go_at_call 76; refine hn.mono ?_; rintro e w' ⟨rfl, rfl⟩)
      go_roundw
      case rel => exact ⟨i + 1, by omega, by go_num, by rw [sprA, Hnn.out]; exact H.out.1, H.out.2.1, H.out.2.2⟩
      case measure => simp [intOf]; omega
    · obtain rfl : i = 16 := by omega
      go_wp2
      go_loopw [5] (fun iv wr => ∃ i : Nat, 16 ≤ i ∧ i ≤ 64 ∧ iv = .int .i64 i ∧ WordsAt wr (w.heap.size + 1) (sprB (sprA s.data.toList 16) (i - 16)) 106 ∧ WordsAt wr w.heap.size (List.replicate 64 0) 106 ∧ Below w.heap.size w wr) (fun iv _ => 64 - (intOf iv).toNat)
      case atStart => exact ⟨16, by omega, by omega, rfl, ha, hz, hb⟩
      case round =>
        clear ha hz hb
        obtain ⟨i, hi0, hi, rfl, ha, hz, hb⟩ := hrel
        have hlen : (sprB (sprA s.data.toList 16) (i - 16)).length = 64 := by rw [sprB_len, sprA_len]
        have Hnext : Hid (sprB (sprA s.data.toList 16) (i + 1 - 16) = (sprB (sprA s.data.toList 16) (i - 16)).set i (nextW (sprB (sprA s.data.toList 16) (i - 16)) i)) := Lib.hid (by
          rw [show i + 1 - 16 = (i - 16) + 1 by omega, sprB, show 16 + (i - 16) = i by omega])
        have Hfin : Hid (i = 64 → sprB (sprA s.data.toList 16) (i - 16) = spreadP s.data.toList) := Lib.hid (fun e => by subst e; rfl)
        obtain ⟨L, hL⟩ : ∃ L, sprB (sprA s.data.toList 16) (i - 16) = L := ⟨_, rfl⟩
        rw [hL] at ha hlen Hnext Hfin
        clear hL
        by_cases hlt : i < 64
        · have q15 := ha.cell (j := i - 15) (by omega)
          have HA := Lib.hid (And.intro ha (And.intro hz hb))
          have Hlen := Lib.hid hlen
          clear ha hz hb hlen
          have k1 : IntKind.i64.wrap ((i : Int) - 15) = (i : Int) - 15 := IntWalk.i64_in _ (by omega)
          have k3 : ((i : Int) - 15).toNat = i - 15 := by omega
          have k7 : (i : Int) - 15 < 64 := by omega
          have k9 : (15 : Int) ≤ (i : Int) := by omega
          have k11 : 15 ≤ i := by omega
          have k13 : (i : Int) < 79 := by omega
          go_wp2
          go_quiet ((go_at_call 166; exact Calls.quiet_of_same (turned_z _ _ (by decide) (by decide) _)))
          have ha : WordsAt (wr.drewN nq) (w.heap.size + 1) L 106 := HA.out.1
          have hz : WordsAt (wr.drewN nq) w.heap.size (List.replicate 64 0) 106 := HA.out.2.1
          have hb : Below w.heap.size w (wr.drewN nq) := below_drewN HA.out.2.2 nq
          clear HA q15 k1 k3 k7 k9 k11 k13
          generalize wr.drewN nq = wq at ha hz hb ⊢
          have q2 := ha.cell (j := i - 2) (by have := Hlen.out; omega)
          have HA := Lib.hid (And.intro ha (And.intro hz hb))
          clear ha hz hb
          have k4 : IntKind.i64.wrap ((i : Int) - 2) = (i : Int) - 2 := IntWalk.i64_in _ (by omega)
          have k6 : ((i : Int) - 2).toNat = i - 2 := by omega
          have k8 : (i : Int) - 2 < 64 := by omega
          have k10 : (2 : Int) ≤ (i : Int) := by omega
          have k12 : 2 ≤ i := by omega
          have k14 : (i : Int) < 66 := by omega
          go_wp2
          go_quiet ((go_at_call 166; exact Calls.quiet_of_same (turned_z _ _ (by decide) (by decide) _)))
          have ha : WordsAt (wq.drewN nq) (w.heap.size + 1) L 106 := HA.out.1
          have hz : WordsAt (wq.drewN nq) w.heap.size (List.replicate 64 0) 106 := HA.out.2.1
          have hb : Below w.heap.size w (wq.drewN nq) := below_drewN HA.out.2.2 nq
          clear HA q2 k4 k6 k8 k10 k12 k14
          generalize wq.drewN nq = wp at ha hz hb ⊢
          have q16 := ha.cell (j := i - 16) (by have := Hlen.out; omega)
          have q7 := ha.cell (j := i - 7) (by have := Hlen.out; omega)
          have qi := ha.cell (j := i) (by have := Hlen.out; omega)
          have qf := ha.frozen i
          have hset := ha.set i (nextW L i)
          have hz2 := hz.keep (S := fun b => b = w.heap.size + 1) (Turned.set (N := w.heap.size + 1) (j := i) (v := .int .u32 (nextW L i)) rfl) (by omega)
          have hb2 : Below w.heap.size w (wp.setCell ⟨w.heap.size + 1, i, none⟩ (.int .u32 (nextW L i))) := hb.setCell (by simp) _
          have H := Lib.hid (And.intro hset (And.intro hz2 hb2))
          clear hset hz2 hb2 ha hz hb
          have k1 : IntKind.i64.wrap ((i : Int) - 16) = (i : Int) - 16 := IntWalk.i64_in _ (by omega)
          have k2 : (0 : Int) ≤ (i : Int) - 16 := by omega
          have k3 : ((i : Int) - 16).toNat = i - 16 := by omega
          have k4 : (i : Int) - 16 < 64 := by omega
          have k5 : IntKind.i64.wrap ((i : Int) - 7) = (i : Int) - 7 := IntWalk.i64_in _ (by omega)
          have k6 : (0 : Int) ≤ (i : Int) - 7 := by omega
          have k7 : ((i : Int) - 7).toNat = i - 7 := by omega
          have k8 : (i : Int) - 7 < 64 := by omega
          have k9 : (16 : Int) ≤ (i : Int) := by omega
          have k10 : (7 : Int) ≤ (i : Int) := by omega
          have k11 : 16 ≤ i := by omega
          have k12 : 7 ≤ i := by omega
          have k13 : (i : Int) < 80 := by omega
          have k14 : (i : Int) < 71 := by omega
          go_wp2
          go_region
          all_goals
            go_wp2
            go_roundw
            case rel => exact ⟨i + 1, by omega, by omega, by go_num, by rw [Hnext.out]; exact H.out.1, H.out.2.1, below_drewN H.out.2.2 1⟩
            case measure => simp [intOf]; omega
        · obtain rfl : i = 64 := by omega
          have hfin := Hfin.out rfl
          rw [hfin] at ha hlen
          clear hfin Hfin Hnext
          obtain ⟨F, hF⟩ : ∃ F, (wordsV (spreadP s.data.toList)).toArray = F := ⟨_, rfl⟩
          have hFs : F.size = 64 := by rw [← hF]; simp [wordsV, hlen]
          have hone : F.all (·.oneCell') = true := by
            rw [← hF, List.all_toArray, List.all_eq_true]
            intro v hv
            obtain ⟨x, _, rfl⟩ := List.mem_map.1 hv
            rfl
          unfold WordsAt at ha hz
          rw [hF] at ha
          have hnew := setRow_heap wr w.heap.size _ F 106 _ hz
          have hbn : Below w.heap.size w (wr.setRow w.heap.size F) := hb.trans ((turned_row9 (S := fun b => b = w.heap.size) rfl).below hb.size (fun b e => by omega))
          have H := Lib.hid (And.intro hnew (And.intro hbn (And.intro hFs hone)))
          have HA := Lib.hid (And.intro ha hz)
          have HF := Lib.hid hF
          clear hF hz ha hb hlen hFs hone hnew hbn
          go_wp2_with (first | ((with_reducible refine wpList_load_row rfl 106 (.tmp 3) rfl (w.heap.size + 1) ?_ 106 F (0, 0) _ HA.out.1 Tryz.underlying106 ?_ ?_ ?_); (· rfl); (· rfl); (· rw [H.out.2.2.1]; kernel_rfl)) | ((with_reducible refine wpList_store_row rfl 106 (.tmp 2) (.tmp 75) rfl w.heap.size F ?_ ?_ 106 _ HA.out.2 ?_ ?_ H.out.2.2.2 ?_); (· rfl); (· rfl); (· rw [H.out.2.2.1]; kernel_rfl); (· rw [H.out.2.2.1]; simp [wordsV])))
          have hnew := H.out.1
          have hfs := H.out.2.2.1
          have hbf := H.out.2.1
          rw [HF.out]
          clear HA H
          generalize wr.setRow w.heap.size F = wf at hnew hbf ⊢
          refine bodyPost_ret (v := .agg F) (results_cell_row rfl _ wf w.heap.size 106 F (0, 0) _ ?_ hnew Tryz.underlying106 rfl ?_) rfl ⟨rfl, hbf⟩
          · rfl
          · rw [hfs]; kernel_rfl
end Go.Proofs.YtgpdplffljidbaaGreatDoor
namespace Go.Proofs.YtgpdplffljidbaaGreatDoor
open Go.RowKit

def chW (e f g : Int) : Int := bits .xor .u32 (bits .and .u32 e f) (bits .and .u32 (bits .xor .u32 (if IntKind.u32.signed = true then -1 else IntKind.u32.max) e) g)
def bigE (e : Int) : Int := bits .xor .u32 (bits .xor .u32 (turnW e 6) (turnW e 11)) (turnW e 25)
def bigA (a : Int) : Int := bits .xor .u32 (bits .xor .u32 (turnW a 2) (turnW a 13)) (turnW a 22)
def majW (a b c : Int) : Int := bits .xor .u32 (bits .xor .u32 (bits .and .u32 a b) (bits .and .u32 a c)) (bits .and .u32 b c)
structure St8 where
  a : Int
  b : Int
  c : Int
  d : Int
  e : Int
  f : Int
  g : Int
  h : Int
def St8.list (s : St8) : List Int := [s.a, s.b, s.c, s.d, s.e, s.f, s.g, s.h]
def firstW (s : St8) (w k : Int) : Int := (s.h + bigE s.e + chW s.e s.f s.g + w + k) % 4294967296
def secondW (s : St8) : Int := (bigA s.a + majW s.a s.b s.c) % 4294967296
def roundW (s : St8) (w k : Int) : St8 := ⟨(firstW s w k + secondW s) % 4294967296, s.a, s.b, s.c, (s.d + firstW s w k) % 4294967296, s.e, s.f, s.g⟩
def roundsW (ks ws : List Int) (s : St8) : Nat → St8
  | 0 => s
  | i + 1 => roundW (roundsW ks ws s i) (ws[i]?.getD 0) (ks[i]?.getD 0)
def St8.plus (s t : St8) : St8 := ⟨(s.a + t.a) % 4294967296, (s.b + t.b) % 4294967296, (s.c + t.c) % 4294967296, (s.d + t.d) % 4294967296, (s.e + t.e) % 4294967296, (s.f + t.f) % 4294967296, (s.g + t.g) % 4294967296, (s.h + t.h) % 4294967296⟩
def mixP (ks : List Int) (s : St8) (bytes : List UInt8) : St8 := s.plus (roundsW ks (spreadP bytes) s 64)

def plusN (s t : List Int) : Nat → List Int
  | 0 => s
  | i + 1 => (plusN s t i).set i (((plusN s t i)[i]?.getD 0 + t[i]?.getD 0) % 4294967296)
theorem plusN_len (s t : List Int) : ∀ i, (plusN s t i).length = s.length
  | 0 => rfl
  | i + 1 => by rw [plusN, List.length_set, plusN_len s t i]
def TabAt (w : World) (b k : Nat) (ks : List Int) : Prop := ∀ j, j < 64 → w.cell? ⟨b, k + 8 + j, none⟩ = some (.int .u32 (ks[j]?.getD 0))

set_option maxRecDepth 100000 in
set_option maxHeartbeats 4000000 in
theorem mix_any (b k u : Nat) (ks : List Int) (st : St8) (s : ByteArray) (hs : s.size = 64) (w : World) (ht : TabAt w b k ks) (hb : b < w.heap.size) (hu : WordsAt w u st.list 105) :
    Calls Tryz.prog 157 #[.pointer (some ⟨b, k, none⟩), .pointer (some ⟨u, 0, none⟩), .string s] w fun e w' => e = .returned (.tuple #[]) ∧ WordsAt w' u (mixP ks st s.data.toList).list 105 ∧ Turned (fun x => x = u) w w' := by
  have c0 := hu.cell (j := 0) (by show _ < 8; omega)
  have c1 := hu.cell (j := 1) (by show _ < 8; omega)
  have c2 := hu.cell (j := 2) (by show _ < 8; omega)
  have c3 := hu.cell (j := 3) (by show _ < 8; omega)
  have c4 := hu.cell (j := 4) (by show _ < 8; omega)
  have c5 := hu.cell (j := 5) (by show _ < 8; omega)
  have c6 := hu.cell (j := 6) (by show _ < 8; omega)
  have c7 := hu.cell (j := 7) (by show _ < 8; omega)
  simp only [St8.list, List.getElem?_cons_zero, List.getElem?_cons_succ, Option.getD_some] at c0 c1 c2 c3 c4 c5 c6 c7
  have HU := Lib.hid (And.intro hu (And.intro ht (And.intro hb hs)))
  clear hu ht hb hs
  go_enter Tryz.func157, Tryz.ntmps157
  go_wp2
  go_quiet (fail)
  have hsp := spread_any s HU.out.2.2.2 (w.drewN nq)
  have hb0 : Below w.heap.size w (w.drewN nq) := below_drewN (Below.refl _ _) nq
  have Hlen : Hid ((spreadP s.data.toList).length = 64) := Lib.hid (spread_len _)
  obtain ⟨ws, hws⟩ : ∃ ws, spreadP s.data.toList = ws := ⟨_, rfl⟩
  rw [hws] at hsp Hlen
  have Hws := Lib.hid hws
  obtain ⟨F, hF⟩ : ∃ F, (wordsV ws).toArray = F := ⟨_, rfl⟩
  rw [hF] at hsp
  have HF := Lib.hid hF
  clear hws hF c0 c1 c2 c3 c4 c5 c6 c7
  go_wp2_with (go_at_call 165; refine hsp.mono ?_; rintro e w2 ⟨rfl, hb2⟩)
  have hb3 : Below w.heap.size w w2 := hb0.trans hb2
  clear hsp hb0 hb2
  go_loopw [6, 7, 8, 9, 10, 11, 12, 13, 54] (fun av bv cv dv ev fv gv hv iv wr => ∃ (i : Nat) (a b c d e f g h : Int), i ≤ 64 ∧ iv = .int .i64 i ∧ Hid ((⟨a, b, c, d, e, f, g, h⟩ : St8) = roundsW ks ws st i) ∧ av = .int .u32 a ∧ bv = .int .u32 b ∧ cv = .int .u32 c ∧ dv = .int .u32 d ∧ ev = .int .u32 e ∧ fv = .int .u32 f ∧ gv = .int .u32 g ∧ hv = .int .u32 h ∧ Below w.heap.size w wr) (fun _ _ _ _ _ _ _ _ iv _ => 64 - (intOf iv).toNat)
  case atStart => exact ⟨0, st.a, st.b, st.c, st.d, st.e, st.f, st.g, st.h, by omega, rfl, Lib.hid rfl, rfl, rfl, rfl, rfl, rfl, rfl, rfl, rfl, hb3⟩
  case round =>
    clear hb3
    obtain ⟨i, a, b', c, d, e, f, g, h, hi, rfl, ht, rfl, rfl, rfl, rfl, rfl, rfl, rfl, rfl, hbr⟩ := hrel
    by_cases hlt : i < 64
    · have hk : wr.cell? ⟨b, k + 8 + i, none⟩ = some (.int .u32 (ks[i]?.getD 0)) := by
        rw [hbr.cell (p := ⟨b, k + 8 + i, none⟩) HU.out.2.2.1]
        exact HU.out.2.1 i hlt
      have hFi : F[i]? = some (.int .u32 (ws[i]?.getD 0)) := by
        rw [← HF.out]
        simp [wordsV, Hlen.out, hlt]
      iterate 10 go_step
      refine wp_cond (t := decide ((i : Int) < 64)) rfl ?_
      rw [if_pos (by rw [decide_eq_true_eq]; omega)]
      go_wp2_with (((with_reducible refine wpList_index_agg rfl 106 (.tmp 53) (.tmp 54) rfl F i ?_ ?_ 64 90 Tryz.underlying106 hlt ?_ ?_ _ hFi ?_); (· rfl); (· rfl); (· kernel_rfl); (· kernel_rfl)))
      clear hFi
      go_quiet ((go_at_call 166; exact Calls.quiet_of_same (turned_z _ _ (by decide) (by decide) _)))
      clear hk
      have hbq : Below w.heap.size w (wr.drewN nq) := below_drewN hbr nq
      clear hbr
      generalize wr.drewN nq = wq at hbq ⊢
      go_wp2_with (go_at_call 166; refine (turned_z _ _ (by decide) (by decide) _).mono ?_; rintro e w' ⟨rfl, rfl⟩)
      go_roundw
      case rel => exact ⟨i + 1, _, _, _, _, _, _, _, _, by omega, by go_num, Lib.hid (by rw [roundsW, ← ht.out]; rfl), rfl, rfl, rfl, rfl, rfl, rfl, rfl, rfl, hbq⟩
      case measure => simp [intOf]; omega
    · obtain rfl : i = 64 := by omega
      iterate 10 go_step
      refine wp_cond (t := decide (((64 : Nat) : Int) < 64)) rfl ?_
      rw [if_neg (by decide)]
      have hu : WordsAt wr u st.list 105 := HU.out.1.keep (S := fun _ => False) (Turned.of_below hbr (Nat.le_refl _)) (fun h => h)
      have htr : Turned (fun x => x = u) w wr := Turned.of_below hbr (Nat.le_refl _)
      have Ht : Hid (mixP ks st s.data.toList = st.plus ⟨a, b', c, d, e, f, g, h⟩) := Lib.hid (by unfold mixP; rw [Hws.out, ← ht.out])
      clear ht hbr Hlen Hws HF HU
      go_wp2
      go_loopw [128] (fun iv wr => ∃ (i : Nat), i ≤ 8 ∧ iv = .int .i64 i ∧ WordsAt wr u (plusN st.list [a, b', c, d, e, f, g, h] i) 105 ∧ Turned (fun x => x = u) w wr) (fun iv _ => 8 - (intOf iv).toNat)
      case atStart => exact ⟨0, by omega, rfl, hu, htr⟩
      case round =>
        clear hu htr
        obtain ⟨i, hi, rfl, hu, htr⟩ := hrel
        have hlen : (plusN st.list [a, b', c, d, e, f, g, h] i).length = 8 := plusN_len _ _ i
        obtain ⟨L, hL⟩ : ∃ L, plusN st.list [a, b', c, d, e, f, g, h] i = L := ⟨_, rfl⟩
        have HL := Lib.hid hL
        rw [hL] at hu hlen
        by_cases hlt : i < 8
        · have hci := hu.cell (j := i) (by omega)
          have hfi := hu.frozen i
          obtain ⟨y, hy⟩ : ∃ y, ([a, b', c, d, e, f, g, h] : List Int)[i]? = some y := ⟨_, List.getElem?_eq_getElem (by simpa using hlt)⟩
          have hFi : (#[.int .u32 a, .int .u32 b', .int .u32 c, .int .u32 d, .int .u32 e, .int .u32 f, .int .u32 g, .int .u32 h] : Array Value)[i]? = some (.int .u32 y) := by
            have := congrArg (Option.map (Value.int .u32)) hy
            rw [← List.getElem?_map] at this
            simpa using this
          have hset := hu.set i ((L[i]?.getD 0 + y) % 4294967296)
          have htr2 := htr.trans (Turned.set (S := fun x => x = u) (w := wr) (N := u) (j := i) (v := .int .u32 ((L[i]?.getD 0 + y) % 4294967296)) rfl) (fun b e => .inl e)
          have hnext : plusN st.list [a, b', c, d, e, f, g, h] (i + 1) = L.set i ((L[i]?.getD 0 + y) % 4294967296) := by
            rw [plusN, hL, hy]
            rfl
          have H := Lib.hid (And.intro hset (And.intro htr2 hnext))
          have HFi := Lib.hid hFi
          clear hset htr2 hnext hu htr hL hlen hy hFi
          iterate 10 go_step
          refine wp_cond (t := decide ((i : Int) < 8)) rfl ?_
          rw [if_pos (by rw [decide_eq_true_eq]; omega)]
          go_wp2_with (((with_reducible refine wpList_index_agg rfl 105 (.tmp 127) (.tmp 128) rfl #[.int .u32 a, .int .u32 b', .int .u32 c, .int .u32 d, .int .u32 e, .int .u32 f, .int .u32 g, .int .u32 h] i ?_ ?_ 8 90 Tryz.underlying105 hlt ?_ ?_ _ HFi.out ?_); (· rfl); (· rfl); (· kernel_rfl); (· kernel_rfl)))
          --@j
          go_region
          all_goals
            go_wp2
            go_roundw
            case rel => exact ⟨_, _, _, _, _, _, _, _, _, _, _, _, _, _, _, _, ⟨i + 1, by omega, by go_num, by rw [H.out.2.2]; exact H.out.1, H.out.2.1.trans (T := fun _ => False) Turned.drew (fun _ h => h.elim)⟩, rfl⟩
            case measure => simp [intOf]; omega
        · obtain rfl : i = 8 := by omega
          iterate 10 go_step
          refine wp_cond (t := decide (((8 : Nat) : Int) < 8)) rfl ?_
          rw [if_neg (by decide)]
          have hfin : WordsAt wr u (mixP ks st s.data.toList).list 105 := by
            rw [Ht.out]
            rw [← HL.out] at hu
            exact hu
          have H := Lib.hid (And.intro hfin htr)
          clear hfin htr hu hL hlen
          go_wp2
          (first | go_end0 | (simp only [Exit.inBlock, Exit.then]; refine bodyPost_ret (results_none rfl _ _ _) rfl ?_) | refine bodyPost_ret (results_none rfl _ _ _) rfl ?_)
          exact ⟨rfl, H.out.1, H.out.2⟩
end Go.Proofs.YtgpdplffljidbaaGreatDoor
