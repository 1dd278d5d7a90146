/-
  Texts of this proof, put together: StrL, St2.
-/
import Derived.Test.YtgpdplffljidbaaGreatDoorRows
import Derived.WalkKit
import Derived.WalkSpells
import Derived.WalkLawsBesides
import Derived.Lib.Hide
import Derived.Laws.AppendOwn
import Derived.Test.YtgpdplffljidbaaGreatDoorZ15
import Derived.Test.YtgpdplffljidbaaGreatDoorZ11
import Derived.Lib.SmallJoins
import Derived.Deep.QuietTactic
import Derived.BigQuiet
namespace Go.Proofs.YtgpdplffljidbaaGreatDoor
open Go.RowKit

def Strs (w : World) (B : Nat) (A : Option Addr) (n c : Nat) (ss : List ByteArray) : Prop :=
  ss.length = n ∧ ((A = none ∧ n = 0 ∧ c = 0) ∨ ∃ ad, A = some ad ∧ (n = 0 ∨ ∃ b off, ad = ⟨b, off, none⟩ ∧ b < B ∧ ∀ j, j < n → w.cell? ⟨b, off + j, none⟩ = some (.string (ss.getD j ByteArray.empty))))

section
variable {w w' : World} {B B' n c : Nat} {A : Option Addr} {ss : List ByteArray}
theorem Strs.len (h : Strs w B A n c ss) : ss.length = n := h.1
theorem Strs.at_ (h : Strs w B A n c ss) {k : Nat} (hk : k < n) : ∃ b off, A = some ⟨b, off, none⟩ ∧ b < B ∧ ∀ j, j < n → w.cell? ⟨b, off + j, none⟩ = some (.string (ss.getD j ByteArray.empty)) := by
  rcases h.2 with ⟨_, h0, _⟩ | ⟨ad, rfl, h0 | ⟨b, off, rfl, hb, hc⟩⟩
  · omega
  · omega
  · exact ⟨b, off, rfl, hb, hc⟩
theorem Strs.keep (h : Strs w B A n c ss) (hk : ∀ p : Addr, p.block < B → w'.cell? p = w.cell? p) : Strs w' B A n c ss := by
  refine ⟨h.1, ?_⟩
  rcases h.2 with h0 | ⟨ad, rfl, h0 | ⟨b, off, rfl, hb, hc⟩⟩
  · exact .inl h0
  · exact .inr ⟨ad, rfl, .inl h0⟩
  · exact .inr ⟨_, rfl, .inr ⟨b, off, rfl, hb, fun j hj => (hk _ hb).trans (hc j hj)⟩⟩
theorem Strs.more (h : Strs w B A n c ss) (hB : B ≤ B') : Strs w B' A n c ss := by
  refine ⟨h.1, ?_⟩
  rcases h.2 with h0 | ⟨ad, rfl, h0 | ⟨b, off, rfl, hb, hc⟩⟩
  · exact .inl h0
  · exact .inr ⟨ad, rfl, .inl h0⟩
  · exact .inr ⟨_, rfl, .inr ⟨b, off, rfl, by omega, hc⟩⟩
theorem Strs.below (h : Strs w B A n c ss) (hb : Below B w w') : Strs w' B A n c ss := h.keep fun _ hp => hb.cell hp
theorem Strs.alloc (h : Strs w B A n c ss) (hB : B ≤ w.heap.size) (o : Obj) : Strs (w.alloc o) B A n c ss := h.below ((Below.refl _ _).alloc hB o)
end

end Go.Proofs.YtgpdplffljidbaaGreatDoor
namespace Go.Proofs.YtgpdplffljidbaaGreatDoor
open Go.RowKit Go.Maps

def allR (H : List UInt8 → List UInt8) (gen num : Nat) (t : List UInt8) : List UInt8 := padR 63 ((recR H gen num t).take 63) ++ ([77] ++ (recR H gen num t).drop 63)
def pieceR (l : List UInt8) (i : Nat) : List UInt8 := (l.drop (64 * i)).take 64
theorem cut_pieces : ∀ (n : Nat) (l : List UInt8), cutR n l = (List.range n).map fun i => padR 64 (pieceR l i)
  | 0, _ => rfl
  | n + 1, l => by
    rw [cutR, List.range_succ_eq_map, List.map_cons, List.map_map, cut_pieces n (l.drop 64)]
    congr 1
    refine List.map_congr_left fun i _ => ?_
    unfold pieceR
    rw [List.drop_drop]
    rw [show 64 + 64 * i = 64 * (i + 1) by omega]
    rfl
variable {H : List UInt8 → List UInt8} (hH : ∀ l, (H l).length = 32)
include hH in
theorem all_len (gen num : Nat) (t : List UInt8) : (allR H gen num t).length = 64 + (t.length + 46 - 63) := by
  have := rec_len H hH gen num t
  unfold allR
  rw [List.length_append, pad_len (by rw [List.length_take]; omega), List.length_append, List.length_drop, this]
  simp
  omega
theorem laid_pieces (gen num : Nat) (t : List UInt8) : laidR H gen num t = (List.range (secN t.length)).map fun i => padR 64 (pieceR (allR H gen num t) i) := by
  have hp := secN_pos t.length
  have h63 : (padR 63 ((recR H gen num t).take 63)).length = 63 := pad_len (by rw [List.length_take]; omega)
  rw [← cut_pieces]
  obtain ⟨m, hm⟩ : ∃ m, secN t.length = m + 1 := ⟨secN t.length - 1, by omega⟩
  rw [hm, cutR]
  unfold laidR allR
  rw [hm]
  have e1 : (padR 63 ((recR H gen num t).take 63) ++ ([77] ++ (recR H gen num t).drop 63)).take 64 = padR 63 ((recR H gen num t).take 63) ++ [77] := by
    rw [← List.append_assoc]
    exact List.take_left' (by rw [List.length_append, h63]; rfl)
  have e2 : (padR 63 ((recR H gen num t).take 63) ++ ([77] ++ (recR H gen num t).drop 63)).drop 64 = (recR H gen num t).drop 63 := by
    rw [← List.append_assoc]
    exact List.drop_left' (by rw [List.length_append, h63]; rfl)
  rw [e1, e2]
  congr 1
  unfold padR
  rw [List.length_append, ← padR, h63]
  simp [padR]
theorem bytes_be4 (n : Nat) : bytesN n 4 = be4 n := by
  simp [bytesN, be4]
abbrev OwnT9 (B : Nat) (w : World) (v : Value) (l : List (List UInt8)) : Prop := w.ownsRow B 9 1 v l.length (l.map fun s => .string (textQ s))
theorem infoStr9 : (Tryz.prog.info? 9).map (fun i => (i.zero, i.size, i.bytes)) = some (some (.string ⟨#[]⟩), 1, 16) := by kernel_rfl
theorem wpList_append_t {w : World} {ops : Array Oper} {rest : List Oper} {o : Oper} {a : Act} {Q : Exit → Act → World → Prop} (hgd : o.guard = none) (s x : Operand)
    (ho : o.op = .call { callee := .builtin .append, args := #[s, x], argTypes := #[113, 113] }) (B : Nat) (v : Value) (l : List (List UInt8)) (b : List UInt8) (hs : a.eval s = v) (hown : OwnT9 B w v l) (hB : B ≤ w.heap.size) (hl : l.length ≤ 1000000000)
    (g c : Nat) (hx : a.eval x = .slice (some ⟨g, 0, none⟩) 1 c) (h0 : w.cell? ⟨g, 0, none⟩ = some (.string (textQ b)))
    (h : ∀ v' w', OwnT9 B w' v' (l ++ [b]) → Turned (blkOf v) w w' → FreshF w v v' → wpList Tryz.prog ops Q rest (a.put o.dst v') w') : wpList Tryz.prog ops Q (o :: rest) a w := by
  obtain ⟨i0, hi, hz0, hz1, hz2⟩ := info_parts infoStr9
  refine wpList_append_own_at w hgd s x 113 ho B 9 i0 (.string ⟨#[]⟩) 1 16 Tryz.underlying113 hi hz0 hz1 hz2 rfl (by decide) v l.length (l.map fun s => .string (textQ s)) hs hown ⟨g, 0, none⟩ 1 c [.string (textQ b)] hx rfl (fun j u hj => ?_) (fun u hu => ?_) (by unfold maxLen; omega) (by omega) hB (fun v' w' q1 q2 _ q3 => ?_)
  · rw [Addr.add_lit, Nat.zero_add]
    match j, hj with
    | 0, hj => cases hj; exact h0
    | j + 1, hj => cases hj
  · simp only [List.mem_cons, List.not_mem_nil, or_false] at hu
    subst hu
    rfl
  · refine h v' w' ?_ (turned_grown q2) (fresh_at q3 (Nat.le_refl _))
    unfold OwnT9
    rw [List.map_append, List.length_append]
    exact q1

def headN (gen num n : Nat) (i : Nat) : List UInt8 := [77, 71] ++ ((([gen, num, n] : List Nat).take i).flatMap fun x => bytesN x 4)
theorem headN_len (gen num n i : Nat) (h : i ≤ 3) : (headN gen num n i).length = 2 + 4 * i := by
  match i, h with
  | 0, _ => rfl
  | 1, _ => rfl
  | 2, _ => rfl
  | 3, _ => rfl
theorem headN_all (gen num : Nat) (t : List UInt8) : headN gen num t.length 3 ++ t = headR gen num t := by
  unfold headN headR
  simp [bytes_be4]

set_option maxRecDepth 100000 in
set_option maxHeartbeats 4000000 in
theorem record_any (N Nd m : Nat) (cs : Array Value) (st : StP) (w : World) (h : Held9 w N cs 110) (hc : CellsOk cs Nd m st) (p : PlP) (t : ByteArray) (ht : t.size ≤ 100000000) (hg : p.gen < 4294967296) (hn : p.num < 4294967296) :
    Calls Tryz.prog 87 #[.pointer (some ⟨N, 0, none⟩), plV p, .string t] w fun e w' => ∃ v cs', e = .returned v ∧ OwnT9 w.heap.size w' v ((List.range (secN t.size)).map (pieceR (allR sumH p.gen p.num t.data.toList))) ∧ Held9 w' N cs' 110 ∧ CellsOk cs' Nd m st ∧ Turned (fun b => b = N) w w' := by
  obtain ⟨half, at_, gen, num⟩ := p
  simp only [plV, plCells] at hg hn ⊢
  have hb0 := Below.refl w.heap.size w
  have H := Lib.hid (And.intro h hc)
  have hlt := h.lt
  have hcst := Go.Joins.run_convert_bytes_const_at (P := Tryz.prog) (w.alloc (.cells #[.int .i64 (half : Int), .int .i64 (at_ : Int), .int .u32 (gen : Int), .int .u32 (num : Int)] 92)) 65 5 #[.int .u8 77, .int .u8 71] 2 2 (w.heap.size + 1) (by simp) Tryz.underlying65 Tryz.underlying5
  clear h hc
  go_enter Tryz.func87, Tryz.ntmps87
  go_wp2
  have hw3 : ∃ w3, (((w.alloc (.cells #[.int .i64 (half : Int), .int .i64 (at_ : Int), .int .u32 (gen : Int), .int .u32 (num : Int)] 92)).alloc (.cells #[.int .u8 77, .int .u8 71] 5 (2, 3))).alloc (.cells #[.int .u32 (gen : Int), .int .u32 (num : Int), .int .u32 (t.size : Int)] 90)) = w3 := ⟨_, rfl⟩
  obtain ⟨w3, hw3⟩ := hw3
  have hq3 : w3.heap[w.heap.size + 1 + 1]? = some (.cells #[.int .u32 (gen : Int), .int .u32 (num : Int), .int .u32 (t.size : Int)] 90 (0, 0)) := by
    rw [← hw3]
    have := heap_alloc_new ((w.alloc (.cells #[.int .i64 (half : Int), .int .i64 (at_ : Int), .int .u32 (gen : Int), .int .u32 (num : Int)] 92)).alloc (.cells #[.int .u8 77, .int .u8 71] 5 (2, 3))) (.cells #[.int .u32 (gen : Int), .int .u32 (num : Int), .int .u32 (t.size : Int)] 90)
    simpa using this
  have hv0 : FullB w3 (.slice (some ⟨w.heap.size + 1, 0, none⟩) 2 2) [77, 71] := by
    refine ⟨w.heap.size + 1, rfl, fun j u hj => ?_⟩
    have hh : w3.heap[w.heap.size + 1]? = some (.cells #[.int .u8 77, .int .u8 71] 5 (2, 3)) := by
      rw [← hw3, heap_alloc_old _ _ (by simp)]
      have := heap_alloc_new (w.alloc (.cells #[.int .i64 (half : Int), .int .i64 (at_ : Int), .int .u32 (gen : Int), .int .u32 (num : Int)] 92)) (.cells #[.int .u8 77, .int .u8 71] 5 (2, 3))
      simpa using this
    rw [Go.Joins.cell_of_block hh]
    match j, hj with
    | 0, hj => exact hj
    | 1, hj => exact hj
    | j + 2, hj => cases hj
  have hb3 : Below w.heap.size w w3 := by
    rw [← hw3]
    exact (((Below.refl _ w).alloc (Nat.le_refl _) _).alloc (by simp) _).alloc (by simp; omega) _
  have hz3 : w3.heap.size = w.heap.size + 1 + 1 + 1 := by rw [← hw3]; simp
  rw [hw3]
  clear hw3 hcst hb0
  go_loopw [7, 26] (fun hv iv wr => ∃ i : Nat, i ≤ 3 ∧ iv = .int .i64 i ∧ Hid ((i = 0 ∧ hv = .slice (some ⟨w.heap.size + 1, 0, none⟩) 2 2 ∧ wr = w3) ∨ (OwnB9 w3.heap.size wr hv (headN gen num t.size i) ∧ Below w3.heap.size w3 wr))) (fun _ iv _ => 3 - (intOf iv).toNat)
  case atStart => exact ⟨0, by omega, rfl, Lib.hid (.inl ⟨rfl, rfl, rfl⟩)⟩
  case round =>
    obtain ⟨i, hi, rfl, hr⟩ := hrel
    have hdec0 : Below w3.heap.size w3 wr := by
      rcases hr.out with ⟨_, _, e⟩ | ⟨_, h⟩
      · rw [e]; exact Below.refl _ _
      · exact h
    by_cases hlt : i < 3
    · have hdec : decide ((i : Int) < 3) = true := by rw [decide_eq_true_eq]; omega
      obtain ⟨x, hx, hxl⟩ : ∃ x : Nat, ([gen, num, t.size] : List Nat)[i]? = some x ∧ x < 4294967296 := by
        match i, hlt with
        | 0, _ => exact ⟨gen, rfl, hg⟩
        | 1, _ => exact ⟨num, rfl, hn⟩
        | 2, _ => exact ⟨t.size, rfl, by omega⟩
      have hcell : wr.cell? ⟨w.heap.size + 1 + 1, i, none⟩ = some (.int .u32 (x : Int)) := by
        rw [hdec0.cell (p := ⟨w.heap.size + 1 + 1, i, none⟩) (by show w.heap.size + 1 + 1 < _; omega), Lib.cell_of_heap hq3]
        have := congrArg (Option.map fun y : Nat => Value.int .u32 (y : Int)) hx
        rw [← List.getElem?_map] at this
        simpa using this
      have hnx : headN gen num t.size i ++ bytesN x 4 = headN gen num t.size (i + 1) := by
        unfold headN
        rw [List.take_add_one, hx, List.flatMap_append, List.append_assoc]
        simp
      have happ : Calls Tryz.prog 63 #[u7, .int .u64 (x : Int), .int .i64 4] wr fun e w' => ∃ v', e = .returned v' ∧ OwnB9 w3.heap.size w' v' (headN gen num t.size (i + 1)) ∧ Below w3.heap.size w3 w' := by
        rcases hr.out with ⟨e0, e1, e2⟩ | ⟨h1, h2⟩
        · subst e0 e1 e2
          have := appn_full (.slice (some ⟨w.heap.size + 1, 0, none⟩) 2 2) [77, 71] x 4 (by omega) (by omega) wr hv0 (by decide)
          refine this.mono ?_
          rintro e w' ⟨v', rfl, q1, q2⟩
          refine ⟨v', rfl, ?_, q2⟩
          rw [← hnx]
          exact q1
        · have := appn_of w3.heap.size u7 (headN gen num t.size i) x 4 (by omega) (x : Int) 4 rfl rfl wr h1 h2.size (by rw [headN_len _ _ _ _ hi]; omega)
          refine this.mono ?_
          rintro e w' ⟨v', rfl, q1, q2, q3⟩
          refine ⟨v', rfl, ?_, h2.trans (q2.below h2.size (fun b e => (row_block h1 e).1))⟩
          rw [← hnx]
          exact q1
      clear hx hnx hr
      go_wp2_with (go_at_call 63; refine happ.mono ?_; rintro e w4 ⟨v4, rfl, hown4, hb4⟩)
      clear happ hcell hdec
      go_wp2
      go_roundw
      case rel => exact ⟨i + 1, by omega, by go_num, Lib.hid (.inr ⟨hown4, hb4⟩)⟩
      case measure => simp [intOf]; omega
    · obtain rfl : i = 3 := by omega
      obtain ⟨hown, hb4⟩ : OwnB9 w3.heap.size wr u7 (headN gen num t.size 3) ∧ Below w3.heap.size w3 wr := by
        rcases hr.out with ⟨e, _⟩ | h
        · omega
        · exact h
      have hcv := conv_own4 hown
      clear hr hown hv0 hq3 hdec0
      have hbw : Below w.heap.size w wr := hb3.trans (hb4.mono (by omega))
      have hh : Held9 wr N cs 110 := H.out.1.below hbw H.out.1.lt
      have hlist : ((⟨(headN gen num t.size 3).toArray⟩ : ByteArray) ++ t).data.toList = headR gen num t.data.toList := by
        rw [ByteArray.data_append, Array.toList_append, ← headN_all]
        rfl
      have hsz0 : ((⟨(headN gen num t.size 3).toArray⟩ : ByteArray) ++ t).size = 14 + t.size := by
        rw [ByteArray.size_append]
        show (headN gen num t.size 3).length + _ = _
        rw [headN_len _ _ _ _ (by omega)]
      have hsum := sum_any N cs ((⟨(headN gen num t.size 3).toArray⟩ : ByteArray) ++ t) (by omega) wr hh H.out.2.once
      have hcat0 : ¬ 9223372036854775807 < (headN gen num t.size 3).length + t.size := by rw [headN_len _ _ _ _ (by omega)]; omega
      rw [hlist] at hsum
      have hsl : (textQ (sumH (headR gen num t.data.toList))).size = 32 := sumH_len _
      have hcat1 : ¬ 9223372036854775807 < (headN gen num t.size 3).length + t.size + (textQ (sumH (headR gen num t.data.toList))).size := by rw [headN_len _ _ _ _ (by omega), hsl]; omega
      have hRl : ((⟨(headN gen num t.size 3).toArray⟩ : ByteArray) ++ t ++ textQ (sumH (headR gen num t.data.toList))).data.toList = recR sumH gen num t.data.toList := by
        rw [ByteArray.data_append, Array.toList_append, hlist]
        rfl
      have hRs : ((⟨(headN gen num t.size 3).toArray⟩ : ByteArray) ++ t ++ textQ (sumH (headR gen num t.data.toList))).size = 46 + t.size := by
        rw [ByteArray.size_append, hsz0, hsl]
        omega
      have hF0 : min (((headN gen num t.size 3).length : Int) + (t.size : Int) + ((textQ (sumH (headR gen num t.data.toList))).size : Int)) 63 = ((min (46 + t.size) 63 : Nat) : Int) := by
        rw [headN_len _ _ _ _ (by omega), hsl]
        push_cast
        omega
      have HR := Lib.hid (And.intro hRl (And.intro hRs hF0))
      clear hlist hsz0 hlt hsl hRl hRs hF0
      go_wp2_with (go_at_call 100; (with_reducible refine hsum.mono ?_); rintro e w5 ⟨rfl, cs5, hh5, ho5, hl5, ht5⟩)
      obtain ⟨hRl, hRs, hF0⟩ := HR.out
      clear HR hsum hcv hcat0 hcat1
      obtain ⟨R, hR⟩ : ∃ R, (⟨(headN gen num t.size 3).toArray⟩ : ByteArray) ++ t ++ textQ (sumH (headR gen num t.data.toList)) = R := ⟨_, rfl⟩
      obtain ⟨F, hF⟩ : ∃ F, min (46 + t.size) 63 = F := ⟨_, rfl⟩
      rw [hR] at hRl hRs
      rw [hF] at hF0
      simp only [hR, hF0]
      have hF1 : F ≤ R.size := by omega
      have hF2 : F ≤ 63 := by omega
      have Hw5 : Hid (Held9 w5 N cs5 110 ∧ CellsOk cs5 Nd m st ∧ Turned (fun b => b = N) w w5) := Lib.hid ⟨hh5, H.out.2.of ho5 hl5, (Turned.of_below (S := fun b => b = N) hbw (Nat.le_refl _)).trans ht5 (fun _ h => .inl h)⟩
      have hrep := Tryz.strings_Repeat ⟨#[0]⟩ (63 - F) w5.drew (by omega) (by show 1 * _ ≤ _; omega)
      have e0 : (⟨#[0]⟩ : ByteArray).data.toList = [0] := rfl
      rw [e0, repeat_zero] at hrep
      have k1 : IntKind.i64.wrap (63 - (F : Int)) = 63 - (F : Int) := IntWalk.i64_in _ (by omega)
      have k2 : ((63 - F : Nat) : Int) = 63 - (F : Int) := by omega
      rw [k2] at hrep
      have HRF := Lib.hid (And.intro hRl (And.intro hRs (And.intro hF (And.intro hb3 hb4))))
      clear hh5 ho5 hl5 ht5 hh hbw hR hF hF0 e0 k2 hRl hRs hb3 hb4 hz3 H
      have hRb : R.size ≤ 200000000 := by have := HRF.out.2.1; omega
      have q1 : ¬ 9223372036854775807 < F + (63 - F) + 1 + (R.size - F) := by omega
      have q2 : ¬ 9223372036854775807 < 63 + 1 + (R.size - F) := by omega
      have q3 : ¬ 9223372036854775807 < 64 + (R.size - F) := by omega
      have q4 : ¬ 9223372036854775807 < min F R.size + (63 - F) + 1 + (R.size - F) := by omega
      go_region_held3 (fun _ => True) (trivial) ((go_at_call 60; refine hrep.mono ?_; rintro e w9 ⟨rfl, hb9⟩))
      rename_i hHeld
      clear hHeld q1 q2 q3 q4 k1 hrep
      have hAl : (R.extract 0 F ++ (⟨Array.replicate (63 - F) 0⟩ : ByteArray) ++ (⟨#[77]⟩ : ByteArray) ++ R.extract F R.size).data.toList = allR sumH gen num t.data.toList := by
        obtain ⟨e1, e2, e3, _⟩ := HRF.out
        have hlen : R.data.toList.length = R.size := rfl
        have hx1 : (R.extract 0 F).data.toList = R.data.toList.take 63 := by
          rw [Lib.extract_data, List.drop_zero, Nat.sub_zero]
          by_cases h : 63 ≤ R.size
          · rw [show F = 63 by omega]
          · rw [List.take_of_length_le (by omega), List.take_of_length_le (by omega)]
        have hx2 : (R.extract F R.size).data.toList = R.data.toList.drop 63 := by
          rw [Lib.extract_data, List.take_of_length_le (by rw [List.length_drop]; omega)]
          by_cases h : 63 ≤ R.size
          · rw [show F = 63 by omega]
          · rw [List.drop_of_length_le (by omega), List.drop_of_length_le (by omega)]
        have hx3 : 63 - (R.data.toList.take 63).length = 63 - F := by rw [List.length_take]; omega
        rw [ByteArray.data_append, Array.toList_append, ByteArray.data_append, Array.toList_append, ByteArray.data_append, Array.toList_append, hx1, hx2]
        unfold allR padR
        rw [← e1, hx3]
        simp
      obtain ⟨A, hA⟩ : ∃ A, R.extract 0 F ++ (⟨Array.replicate (63 - F) 0⟩ : ByteArray) ++ (⟨#[77]⟩ : ByteArray) ++ R.extract F R.size = A := ⟨_, rfl⟩
      rw [hA] at hAl
      simp only [hA]
      have hAs : A.size = 64 + (t.size + 46 - 63) := by
        have := all_len sumH_len gen num t.data.toList
        rw [← hAl] at this
        exact this
      have hsn : secN t.size = (A.size + 63) / 64 := by rw [hAs]; unfold secN; omega
      have hAb : A.size ≤ 200000000 := by omega
      have hb5 : Below w5.heap.size w5 w9 := (below_drewN (Below.refl _ w5) 1).trans hb9
      have H9 : Hid (Held9 w9 N cs5 110 ∧ CellsOk cs5 Nd m st ∧ Turned (fun b => b = N) w w9) := Lib.hid ⟨Hw5.out.1.below hb5 Hw5.out.1.lt, Hw5.out.2.1, Hw5.out.2.2.trans (T := fun _ => False) (Turned.of_below hb5 (Nat.le_refl _)) (fun _ h => h.elim)⟩
      have Hsn := Lib.hid (And.intro hsn hAl)
      have hz9 : w.heap.size ≤ w9.heap.size := H9.out.2.2.size
      have hr0 := World.ownsRow_nil w9 w9.heap.size 9 1
      clear hA hAs hsn hAl Hw5 hb5 hb9 HRF hF1 hF2 hRb
      go_wp2
      go_loopw [13, 14] (fun sv av wr => ∃ (j at_ : Nat), j ≤ secN t.size ∧ av = .int .i64 at_ ∧ Hid (at_ = 64 * j) ∧ OwnT9 w9.heap.size wr sv ((List.range j).map (pieceR (allR sumH gen num t.data.toList))) ∧ Below w9.heap.size w9 wr) (fun _ av _ => 300000000 - (intOf av).toNat)
      case atStart => exact ⟨0, 0, by omega, rfl, Lib.hid rfl, hr0, Below.refl _ _⟩
      case round =>
        clear hr0
        obtain ⟨j, at_, hj, rfl, hat, hown, hbr⟩ := hrel
        have hbz := hbr.size
        have hjn : j * 64 ≤ 1000000000 := by have := hj; unfold secN at this; omega
        by_cases hal : at_ < A.size
        · have hatj := hat.out
          have hj2 : j < secN t.size := by rw [Hsn.out.1]; omega
          obtain ⟨e, he⟩ : ∃ e, min (at_ + 64) A.size = e := ⟨_, rfl⟩
          have hei : min ((at_ : Int) + 64) (A.size : Int) = (e : Int) := by omega
          have he1 : at_ ≤ e := by omega
          have he2 : e ≤ A.size := by omega
          have hp : A.extract at_ e = textQ (pieceR (allR sumH gen num t.data.toList) j) := by
            apply ByteArray.ext
            apply Array.ext'
            rw [Lib.extract_data, ← Hsn.out.2]
            show _ = (A.data.toList.drop (64 * j)).take 64
            rw [← hatj]
            have hlen : A.data.toList.length = A.size := rfl
            by_cases h : at_ + 64 ≤ A.size
            · rw [show e - at_ = 64 by omega]
            · rw [List.take_of_length_le (by rw [List.length_drop]; omega), List.take_of_length_le (by rw [List.length_drop]; omega)]
          have hnx : ((List.range j).map (pieceR (allR sumH gen num t.data.toList))) ++ [pieceR (allR sumH gen num t.data.toList) j] = (List.range (j + 1)).map (pieceR (allR sumH gen num t.data.toList)) := by
            rw [List.range_succ, List.map_append]
            rfl
          obtain ⟨X, hX⟩ : ∃ X, pieceR (allR sumH gen num t.data.toList) j = X := ⟨_, rfl⟩
          rw [hX] at hp hnx
          have hlen2 : ((List.range j).map (pieceR (allR sumH gen num t.data.toList))).length ≤ 1000000000 := by rw [List.length_map, List.length_range]; omega
          obtain ⟨L, hL⟩ : ∃ L, (List.range j).map (pieceR (allR sumH gen num t.data.toList)) = L := ⟨_, rfl⟩
          rw [hL] at hown hnx hlen2
          have hr2 := hown.alloc (.cells #[.string (textQ X)] 9)
          have hrb : ∀ b, blkOf u13 b → w9.heap.size ≤ b := fun b e => (row_block hown e).1
          have Hnx := Lib.hid hnx
          have Hp := Lib.hid hp
          clear he hX hL hnx hown hp hatj
          go_wp2_with (at_builtin; simp only [Hp.out]; refine wpList_append_t rfl _ _ rfl w9.heap.size u13 L X rfl hr2 (by simp; omega) hlen2 wr.heap.size 1 rfl (by go_simp) ?_)
          intro v2 w2 hown2 ht2 hf2
          have hb3 : Below w9.heap.size w9 w2 := (hbr.alloc hbz _).trans (ht2.below (by simp; omega) hrb)
          clear ht2 hf2 hr2 hrb hbr hei he1 he2
          go_wp2
          go_roundw
          case rel => exact ⟨j + 1, at_ + 64, by omega, by go_num, Lib.hid (by have := hat.out; omega), by rw [← Hnx.out]; exact hown2, hb3⟩
          case measure => simp [intOf]; omega
        · have hjs : j = secN t.size := by
            have h1 := hat.out
            have h2 := Hsn.out.1
            omega
          have hfin := hown
          rw [hjs] at hfin
          have HF := Lib.hid (And.intro hfin hbr)
          clear hfin hown hjs hbr
          go_wp2
          go_ret
          obtain ⟨q1, q2⟩ := HF.out
          obtain ⟨r1, r2, r3⟩ := H9.out
          exact ⟨_, cs5, rfl, row_more q1 hz9, r1.below q2 r1.lt, r2, r3.trans (T := fun _ => False) (Turned.of_below q2 (Nat.le_refl _)) (fun _ h => h.elim)⟩
end Go.Proofs.YtgpdplffljidbaaGreatDoor
