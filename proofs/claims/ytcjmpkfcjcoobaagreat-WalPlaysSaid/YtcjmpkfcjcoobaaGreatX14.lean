/-
  Texts of this proof, put together: Row9, Sh3.
-/
import Derived.Test.YtcjmpkfcjcoobaaGreatX03
import Derived.Deep.MidRow
import Derived.WalkKit
import Derived.ChangeKeysEq
import Derived.Test.YtcjmpkfcjcoobaaGreatX13
import Derived.Deep.QuietTactic
import Derived.BigQuiet
import Derived.RegionTactic
namespace Go.Proofs.YtcjmpkfcjcoobaaGreat
open Go.RowKit

theorem turned_row9 {w : World} {g : Nat} {cs : Array Value} {S : Nat → Prop} (hS : S g) : Turned S w (w.setRow g cs) :=
  ⟨rfl, rfl, rfl, by simp [World.setRow], fun k _ hs => setRow_other w g k cs (fun e => hs (by rw [e]; exact hS))⟩
section
variable {P : Program} {ops : Array Oper} {rest : List Oper} {op : Oper} {a : Act} {w : World} {Q : Exit → Act → World → Prop}
/-- An element of an array by value. -/
theorem wpList_index_agg (hgd : op.guard = none) (ty : TypeId) (x y : Operand) (ho : op.op = .index ty x y) (cs : Array Value) (i : Nat) (hx : a.eval x = .agg cs) (hy : a.eval y = .int .i64 (i : Int))
    (n : Nat) (e : TypeId) (hu : P.underlying ty = some (.array n e)) (hi : i < n) (hz : (P.info? e).map (·.size) = some 1) (he : P.plainKey e = true) (v : Value) (hv : cs[i]? = some v)
    (h : wpList P ops Q rest (a.put op.dst v) w) : wpList P ops Q (op :: rest) a w := by
  refine wpList_plain hgd fun K hK => ?_
  have hr : (Instr.index ty (.agg cs) (.int .i64 (i : Int))).run P w = .ok v w := by
    have hsz : (sizeOf e).run P w = .ok 1 w := by
      cases hq : P.info? e with
      | none => simp [hq] at hz
      | some j =>
        have : j.size = 1 := by simpa [hq] using hz
        simp [sizeOf, typeInfo, hq, this]
    have hp := run_part_plain (P := P) (w := w) he (xs := cs) (off := i * 1) (by rw [Nat.mul_one]; exact hv)
    have h0 : (0 : Int) ≤ (i : Int) ∧ (i : Int) < (n : Int) := by omega
    simp only [Instr.index, asIntOf, Sem.run_bind, Sem.run_pure, Result.andThen_ok, run_underlying hu, if_pos h0, hsz, Int.toNat_natCast, hp]
  unfold Oper.wp execOp
  simp only [ho, hx, hy, Sem.run_bind, Sem.run_pure, Result.andThen_ok, hr]
  exact hK _ _ h
/-- .. and written. -/
theorem wpList_store_row (hgd : op.guard = none) (ty : TypeId) (x y : Operand) (ho : op.op = .store ty x y)
    (g : Nat) (cells : Array Value) (hx : a.eval x = .pointer (some ⟨g, 0, none⟩)) (hy : a.eval y = .agg cells)
    (t : TypeId) (old : Array Value) (hg : w.heap[g]? = some (.cells old t (0, 0))) (hi : (P.info? ty).map (·.size) = some cells.size)
    (hold : old.size = cells.size) (h1 : cells.all (·.oneCell') = true)
    (h : wpList P ops Q rest (a.put op.dst undef) (w.setRow g cells)) : wpList P ops Q (op :: rest) a w :=
  wpList_plain hgd fun _ hK => wp_store_row ty x y ho g cells hx hy t old hg hi hold h1 (hK _ _ h)
end
end Go.Proofs.YtcjmpkfcjcoobaaGreat
namespace Go.Proofs.YtcjmpkfcjcoobaaGreat
open Go.RowKit

/-- Words, as cells. -/
def wordsV (l : List Int) : List Value := l.map (.int .u32)
/-- A block of words. -/
def WordsAt (w : World) (b : Nat) (l : List Int) (T : TypeId) : Prop := w.heap[b]? = some (.cells (wordsV l).toArray T (0, 0))
section
variable {w w' : World} {b : Nat} {l : List Int} {T : TypeId}
theorem WordsAt.lt (h : WordsAt w b l T) : b < w.heap.size := (Array.getElem?_eq_some_iff.1 h).1
theorem WordsAt.keep {S : Nat → Prop} (h : WordsAt w b l T) (t : Turned S w w') (hs : ¬ S b) : WordsAt w' b l T := t.heap h hs
theorem WordsAt.cell (h : WordsAt w b l T) {j : Nat} (hj : j < l.length) : w.cell? ⟨b, j, none⟩ = some (.int .u32 (l[j]?.getD 0)) := by
  rw [Lib.cell_of_heap h]
  simp [wordsV, hj]
theorem WordsAt.frozen (h : WordsAt w b l T) (j : Nat) : w.frozen? ⟨b, j, none⟩ = false := Lib.frozen_of_heap h j
theorem WordsAt.set (h : WordsAt w b l T) (j : Nat) (x : Int) : WordsAt (w.setCell ⟨b, j, none⟩ (.int .u32 x)) b (l.set j x) T := by
  unfold WordsAt
  rw [set_block h]
  congr 2
  apply Array.ext'
  simp [wordsV, List.map_set]
end
/-- The first words: of a block's bytes. -/
def sprA (s : List UInt8) : Nat → List Int
  | 0 => List.replicate 64 0
  | i + 1 => (sprA s i).set i (numB ((s.drop (4 * i)).take 4))
theorem sprA_len (s : List UInt8) : ∀ i, (sprA s i).length = 64
  | 0 => List.length_replicate ..
  | i + 1 => by rw [sprA, List.length_set, sprA_len s i]
def lowW (x : Int) : Int := bits .xor .u32 (bits .xor .u32 (turnW x 7) (turnW x 18)) (x / 8)
def highW (x : Int) : Int := bits .xor .u32 (bits .xor .u32 (turnW x 17) (turnW x 19)) (x / 1024)
def nextW (l : List Int) (i : Nat) : Int := (l[i - 16]?.getD 0 + lowW (l[i - 15]?.getD 0) + l[i - 7]?.getD 0 + highW (l[i - 2]?.getD 0)) % 4294967296
/-- The others. -/
def sprB (l : List Int) : Nat → List Int
  | 0 => l
  | k + 1 => (sprB l k).set (16 + k) (nextW (sprB l k) (16 + k))
theorem sprB_len (l : List Int) : ∀ k, (sprB l k).length = l.length
  | 0 => rfl
  | k + 1 => by rw [sprB, List.length_set, sprB_len l k]
def spreadP (s : List UInt8) : List Int := sprB (sprA s 16) 48
theorem spread_len (s : List UInt8) : (spreadP s).length = 64 := by rw [spreadP, sprB_len, sprA_len]

set_option maxRecDepth 100000 in
set_option maxHeartbeats 4000000 in
theorem spread_any (s : ByteArray) (hs : s.size = 64) (w : World) :
    Calls Tryz.prog 106 #[.string s] w fun e w' => e = .returned (.agg (wordsV (spreadP s.data.toList)).toArray) ∧ Below w.heap.size w w' := by
  have Hs := Lib.hid hs
  have hb0 := Below.refl w.heap.size w
  have Hz : Hid (∀ W : World, WordsAt (W.alloc (.cells (Array.replicate 64 (.int .u32 0)) 98)) W.heap.size (List.replicate 64 0) 98) := Lib.hid fun W => by
    unfold WordsAt wordsV
    rw [heap_alloc_new, List.map_replicate, List.toArray_replicate]
  clear hs
  go_enter Tryz.func106, Tryz.ntmps106
  go_wp2
  have hstart : ∀ o1 o2, o1 = Obj.cells (Array.replicate 64 (.int .u32 0)) 98 → o2 = Obj.cells (Array.replicate 64 (.int .u32 0)) 98 → WordsAt ((w.alloc o1).alloc o2) (w.heap.size + 1) (List.replicate 64 0) 98 ∧ WordsAt ((w.alloc o1).alloc o2) w.heap.size (List.replicate 64 0) 98 ∧ Below w.heap.size w ((w.alloc o1).alloc o2) := fun o1 o2 e1 e2 => by
    subst e1 e2
    have h1 := Hz.out w
    have h2 := Hz.out (w.alloc (.cells (Array.replicate 64 (.int .u32 0)) 98))
    rw [show (w.alloc (.cells (Array.replicate 64 (.int .u32 0)) 98)).heap.size = w.heap.size + 1 by simp] at h2
    exact ⟨h2, h1.keep (S := fun _ => False) (Turned.of_below ((Below.refl _ _).alloc (Nat.le_refl _) _) (Nat.le_refl _)) (fun h => h), (hb0.alloc (Nat.le_refl _) _).alloc (by simp) _⟩
  go_loopw [8] (fun iv wr => ∃ i : Nat, i ≤ 16 ∧ iv = .int .i64 i ∧ WordsAt wr (w.heap.size + 1) (sprA s.data.toList i) 98 ∧ WordsAt wr w.heap.size (List.replicate 64 0) 98 ∧ Below w.heap.size w wr) (fun iv _ => 16 - (intOf iv).toNat)
  case atStart =>
    refine ⟨0, by omega, rfl, hstart _ _ ?_ ?_⟩
    · kernel_rfl
    · kernel_rfl
  case round =>
    obtain ⟨i, hi, rfl, ha, hz, hb⟩ := hrel
    clear hstart
    by_cases hlt : i < 16
    · have hc := ha.cell (j := i) (by rw [sprA_len]; omega)
      have hf := ha.frozen i
      have hn := num_any (s.extract (4 * i) (4 * i + 4)) (by rw [ByteArray.size_extract]; omega) wr
      have hx : (s.extract (4 * i) (4 * i + 4)).data.toList = (s.data.toList.drop (4 * i)).take 4 := by
        rw [Lib.extract_data]
        simp [List.extract_eq_take_drop]
      rw [hx] at hn
      have hset := ha.set i (numB ((s.data.toList.drop (4 * i)).take 4))
      have hz2 := hz.keep (S := fun b => b = w.heap.size + 1) (Turned.set (N := w.heap.size + 1) (j := i) (v := .int .u32 (numB ((s.data.toList.drop (4 * i)).take 4))) rfl) (by omega)
      have hb2 : Below w.heap.size w (wr.setCell ⟨w.heap.size + 1, i, none⟩ (.int .u32 (numB ((s.data.toList.drop (4 * i)).take 4)))) := hb.setCell (by simp) _
      have H := Lib.hid (And.intro hset (And.intro hz2 hb2))
      have Hss := Hs.out
      obtain ⟨n, hnn⟩ : ∃ n, numB ((s.data.toList.drop (4 * i)).take 4) = n := ⟨_, rfl⟩
      have Hnn := Lib.hid hnn
      rw [hnn] at hn H
      clear hset hz2 hb2 ha hz hb hx hnn
      have hsz2 : s.size < 65 := by omega
      have hsz3 : 63 < s.size := by omega
      clear Hss
      go_wp2_with (go_at_call 34; refine hn.mono ?_; rintro e w' ⟨rfl, rfl⟩)
      go_roundw
      case rel => exact ⟨i + 1, by omega, by go_num, by rw [sprA, Hnn.out]; exact H.out.1, H.out.2.1, H.out.2.2⟩
      case measure => simp [intOf]; omega
    · obtain rfl : i = 16 := by omega
      go_wp2
      go_loopw [5] (fun iv wr => ∃ i : Nat, 16 ≤ i ∧ i ≤ 64 ∧ iv = .int .i64 i ∧ WordsAt wr (w.heap.size + 1) (sprB (sprA s.data.toList 16) (i - 16)) 98 ∧ WordsAt wr w.heap.size (List.replicate 64 0) 98 ∧ Below w.heap.size w wr) (fun iv _ => 64 - (intOf iv).toNat)
      case atStart => exact ⟨16, by omega, by omega, rfl, ha, hz, hb⟩
      case round =>
        clear ha hz hb
        obtain ⟨i, hi0, hi, rfl, ha, hz, hb⟩ := hrel
        have hlen : (sprB (sprA s.data.toList 16) (i - 16)).length = 64 := by rw [sprB_len, sprA_len]
        have Hnext : Hid (sprB (sprA s.data.toList 16) (i + 1 - 16) = (sprB (sprA s.data.toList 16) (i - 16)).set i (nextW (sprB (sprA s.data.toList 16) (i - 16)) i)) := Lib.hid (by
          rw [show i + 1 - 16 = (i - 16) + 1 by omega, sprB, show 16 + (i - 16) = i by omega])
        have Hfin : Hid (i = 64 → sprB (sprA s.data.toList 16) (i - 16) = spreadP s.data.toList) := Lib.hid (fun e => by subst e; rfl)
        obtain ⟨L, hL⟩ : ∃ L, sprB (sprA s.data.toList 16) (i - 16) = L := ⟨_, rfl⟩
        rw [hL] at ha hlen Hnext Hfin
        clear hL
        by_cases hlt : i < 64
        · have q15 := ha.cell (j := i - 15) (by omega)
          have HA := Lib.hid (And.intro ha (And.intro hz hb))
          have Hlen := Lib.hid hlen
          clear ha hz hb hlen
          have k1 : IntKind.i64.wrap ((i : Int) - 15) = (i : Int) - 15 := IntWalk.i64_in _ (by omega)
          have k3 : ((i : Int) - 15).toNat = i - 15 := by omega
          have k7 : (i : Int) - 15 < 64 := by omega
          have k9 : (15 : Int) ≤ (i : Int) := by omega
          have k11 : 15 ≤ i := by omega
          have k13 : (i : Int) < 79 := by omega
          go_wp2
          go_quiet ((go_at_call 107; exact Calls.quiet_of_same (turned_z _ _ (by decide) (by decide) _)))
          have ha : WordsAt (wr.drewN nq) (w.heap.size + 1) L 98 := HA.out.1
          have hz : WordsAt (wr.drewN nq) w.heap.size (List.replicate 64 0) 98 := HA.out.2.1
          have hb : Below w.heap.size w (wr.drewN nq) := below_drewN HA.out.2.2 nq
          clear HA q15 k1 k3 k7 k9 k11 k13
          generalize wr.drewN nq = wq at ha hz hb ⊢
          have q2 := ha.cell (j := i - 2) (by have := Hlen.out; omega)
          have HA := Lib.hid (And.intro ha (And.intro hz hb))
          clear ha hz hb
          have k4 : IntKind.i64.wrap ((i : Int) - 2) = (i : Int) - 2 := IntWalk.i64_in _ (by omega)
          have k6 : ((i : Int) - 2).toNat = i - 2 := by omega
          have k8 : (i : Int) - 2 < 64 := by omega
          have k10 : (2 : Int) ≤ (i : Int) := by omega
          have k12 : 2 ≤ i := by omega
          have k14 : (i : Int) < 66 := by omega
          go_wp2
          go_quiet ((go_at_call 107; exact Calls.quiet_of_same (turned_z _ _ (by decide) (by decide) _)))
          have ha : WordsAt (wq.drewN nq) (w.heap.size + 1) L 98 := HA.out.1
          have hz : WordsAt (wq.drewN nq) w.heap.size (List.replicate 64 0) 98 := HA.out.2.1
          have hb : Below w.heap.size w (wq.drewN nq) := below_drewN HA.out.2.2 nq
          clear HA q2 k4 k6 k8 k10 k12 k14
          generalize wq.drewN nq = wp at ha hz hb ⊢
          have q16 := ha.cell (j := i - 16) (by have := Hlen.out; omega)
          have q7 := ha.cell (j := i - 7) (by have := Hlen.out; omega)
          have qi := ha.cell (j := i) (by have := Hlen.out; omega)
          have qf := ha.frozen i
          have hset := ha.set i (nextW L i)
          have hz2 := hz.keep (S := fun b => b = w.heap.size + 1) (Turned.set (N := w.heap.size + 1) (j := i) (v := .int .u32 (nextW L i)) rfl) (by omega)
          have hb2 : Below w.heap.size w (wp.setCell ⟨w.heap.size + 1, i, none⟩ (.int .u32 (nextW L i))) := hb.setCell (by simp) _
          have H := Lib.hid (And.intro hset (And.intro hz2 hb2))
          clear hset hz2 hb2 ha hz hb
          have k1 : IntKind.i64.wrap ((i : Int) - 16) = (i : Int) - 16 := IntWalk.i64_in _ (by omega)
          have k2 : (0 : Int) ≤ (i : Int) - 16 := by omega
          have k3 : ((i : Int) - 16).toNat = i - 16 := by omega
          have k4 : (i : Int) - 16 < 64 := by omega
          have k5 : IntKind.i64.wrap ((i : Int) - 7) = (i : Int) - 7 := IntWalk.i64_in _ (by omega)
          have k6 : (0 : Int) ≤ (i : Int) - 7 := by omega
          have k7 : ((i : Int) - 7).toNat = i - 7 := by omega
          have k8 : (i : Int) - 7 < 64 := by omega
          have k9 : (16 : Int) ≤ (i : Int) := by omega
          have k10 : (7 : Int) ≤ (i : Int) := by omega
          have k11 : 16 ≤ i := by omega
          have k12 : 7 ≤ i := by omega
          have k13 : (i : Int) < 80 := by omega
          have k14 : (i : Int) < 71 := by omega
          go_wp2
          go_region
          all_goals
            go_wp2
            go_roundw
            case rel => exact ⟨i + 1, by omega, by omega, by go_num, by rw [Hnext.out]; exact H.out.1, H.out.2.1, below_drewN H.out.2.2 1⟩
            case measure => simp [intOf]; omega
        · obtain rfl : i = 64 := by omega
          have hfin := Hfin.out rfl
          rw [hfin] at ha hlen
          clear hfin Hfin Hnext
          obtain ⟨F, hF⟩ : ∃ F, (wordsV (spreadP s.data.toList)).toArray = F := ⟨_, rfl⟩
          have hFs : F.size = 64 := by rw [← hF]; simp [wordsV, hlen]
          have hone : F.all (·.oneCell') = true := by
            rw [← hF, List.all_toArray, List.all_eq_true]
            intro v hv
            obtain ⟨x, _, rfl⟩ := List.mem_map.1 hv
            rfl
          unfold WordsAt at ha hz
          rw [hF] at ha
          have hnew := setRow_heap wr w.heap.size _ F 98 _ hz
          have hbn : Below w.heap.size w (wr.setRow w.heap.size F) := hb.trans ((turned_row9 (S := fun b => b = w.heap.size) rfl).below hb.size (fun b e => by omega))
          have H := Lib.hid (And.intro hnew (And.intro hbn (And.intro hFs hone)))
          have HA := Lib.hid (And.intro ha hz)
          have HF := Lib.hid hF
          clear hF hz ha hb hlen hFs hone hnew hbn
          go_wp2_with (first | ((with_reducible refine wpList_load_row rfl 98 (.tmp 3) rfl (w.heap.size + 1) ?_ 98 F (0, 0) _ HA.out.1 Tryz.underlying98 ?_ ?_ ?_); (· rfl); (· rfl); (· rw [H.out.2.2.1]; kernel_rfl)) | ((with_reducible refine wpList_store_row rfl 98 (.tmp 2) (.tmp 75) rfl w.heap.size F ?_ ?_ 98 _ HA.out.2 ?_ ?_ H.out.2.2.2 ?_); (· rfl); (· rfl); (· rw [H.out.2.2.1]; kernel_rfl); (· rw [H.out.2.2.1]; simp [wordsV])))
          have hnew := H.out.1
          have hfs := H.out.2.2.1
          have hbf := H.out.2.1
          rw [HF.out]
          clear HA H
          generalize wr.setRow w.heap.size F = wf at hnew hbf ⊢
          refine bodyPost_ret (v := .agg F) (results_cell_row rfl _ wf w.heap.size 98 F (0, 0) _ ?_ hnew Tryz.underlying98 rfl ?_) rfl ⟨rfl, hbf⟩
          · rfl
          · rw [hfs]; kernel_rfl
end Go.Proofs.YtcjmpkfcjcoobaaGreat
