/-
  The iterator of strings.SplitSeq at a separator of one byte: what it hands its loop's rounds, each with what came ahead of it, whatever the rounds do that leave its own cells alone.
-/
import Derived.Test.YtidlpdiephlkhaaGreatDoorShelf
import Derived.Test.YtidlpdiephlkhaaGreatDoorZ06
import Derived.Test.YtidlpdiephlkhaaGreatDoorZ23
import Derived.RangeFuncFrom
import Derived.RangeFuncLeaves
import Derived.RangeFuncCalls
import Derived.Shelf.Abstract
import Derived.Shelf.RegionOpen
import Derived.WalkKit
import Derived.OwnWalkIn
import Derived.TacticsInMore
import Derived.LoopNIn
import Derived.LoopIn
import Derived.Lib.Hide
namespace Go.Proofs.YtidlpdiephlkhaaGreatDoor
open Go.RowKit Go.Shelf

attribute [local go_sem] Oper.semAt_some

theorem take_extract (s : ByteArray) (i : Nat) : (⟨(s.data.toList.take i).toArray⟩ : ByteArray) = s.extract 0 i := by
  rw [Lib.extract_eq]
  simp
theorem size_rest (s : ByteArray) (i : Nat) : (s.extract (i + 1) s.size).size = s.size - (i + 1) := by
  have h := congrArg List.length (Lib.extract_to_end s (i + 1))
  rw [List.length_drop] at h
  exact h

open Classical in
/-- How long the text in a cell is. -/
noncomputable def lenAt (w : World) (a : Addr) : Nat := match w.cell? a with | some (.string s) => s.size | _ => 0
theorem lenAt_of {w : World} {a : Addr} {s : ByteArray} (h : w.cell? a = some (.string s)) : lenAt w a = s.size := by unfold lenAt; rw [h]

set_option maxRecDepth 100000 in
set_option maxHeartbeats 2000000 in
/-- The iterator, at a separator of one byte: it hands over the pieces, one a round, till a round says no more. -/
theorem split_one_in (n : Nat) (hn : 1 ≤ n) (l bs bp bv : Nat) (hne : bs ≠ bp ∧ bs ≠ bv) (c : UInt8) (s0 : ByteArray) (J Jx : List (List UInt8) → World → Prop)
    (hJs : ∀ pre A v, J pre A → J pre (A.setCell ⟨bs, 0, none⟩ v))
    (hY : ∀ pre x W, J pre W → (∃ rest, splitB c s0.data.toList = pre ++ x :: rest) → YieldAt Fence.wide (n - 1) Tryz.prog l #[.string ⟨x.toArray⟩] W fun e W' =>
      (e = .returned (.bool true) ∧ J (pre ++ [x]) W' ∧ (∀ b, b = bs ∨ b = bp ∨ b = bv → W'.heap[b]? = W.heap[b]?)) ∨ (e = .returned (.bool false) ∧ Jx (pre ++ [x]) W'))
    (W : World) (hs : W.cell? ⟨bs, 0, none⟩ = some (.string s0)) (hf : W.frozen? ⟨bs, 0, none⟩ = false) (hp : W.cell? ⟨bp, 0, none⟩ = some (.string ⟨#[c]⟩)) (hv : W.cell? ⟨bv, 0, none⟩ = some (.int .i64 0)) (hsz : s0.size ≤ maxLen) (h0 : J [] W) :
    CallsIn Fence.wide n Tryz.prog 104 #[.func (.yield l) #[] #[], .pointer (some ⟨bp, 0, none⟩), .pointer (some ⟨bs, 0, none⟩), .pointer (some ⟨bv, 0, none⟩)] W fun e W' => (∃ v, e = .returned v) ∧
      ((∃ ys, ys = splitB c s0.data.toList ∧ J ys W') ∨ (∃ pre, (∃ rest, splitB c s0.data.toList = pre ++ rest) ∧ Jx pre W')) := by
  unfold maxLen at hsz
  refine callsIn_of_wp Tryz.func104 rfl trivial ?_ rfl
  simp only [Tryz.ntmps104, List.size_toArray, List.length_cons, List.length_nil, Nat.reduceAdd, Nat.reduceSub, Array.replicate_succ, Array.replicate_zero, List.push_toArray, List.append_toArray, List.nil_append, List.cons_append]
  gi_wp2
  gi_loopw [7] (fun _ wr => ∃ (pre : List (List UInt8)) (s : ByteArray), splitB c s0.data.toList = pre ++ splitB c s.data.toList ∧ s.size ≤ s0.size ∧ J pre wr ∧
      wr.cell? ⟨bs, 0, none⟩ = some (.string s) ∧ wr.frozen? ⟨bs, 0, none⟩ = false ∧ wr.cell? ⟨bp, 0, none⟩ = some (.string ⟨#[c]⟩) ∧ wr.cell? ⟨bv, 0, none⟩ = some (.int .i64 0))
    (fun _ wr => lenAt wr ⟨bs, 0, none⟩)
  case atStart => exact ⟨[], s0, rfl, Nat.le_refl _, h0, hs, hf, hp, hv⟩
  case round =>
    obtain ⟨pre, s, hx, hle, hJw, cs, cf, cp, cv⟩ := hrel
    by_cases hneg : Lib.indexByte s.data.toList c < 0
    · have hm1 : Lib.indexByte s.data.toList c = -1 := by have := Lib.indexByte_ge s.data.toList c; omega
      rw [splitB_none c _ hm1] at hx
      have Hx := Lib.hid hx
      obtain ⟨fn, tmps, assign, body, hy, hR⟩ := hY pre s.data.toList wr hJw ⟨[], Hx.out⟩
      have hst : (⟨s.data.toList.toArray⟩ : ByteArray) = s := rfl
      rw [hst] at hy
      clear hst hx
      gi_wp2_with fail
      refine ⟨trivial, ?_⟩
      refine (callsIn_wide.2 (Tryz.strings_Index_one s c _)).mono ?_
      rintro e w' ⟨rfl, rfl⟩
      rw [hm1]
      gi_wp2
      refine hR.mono ?_
      rintro e W3 (⟨rfl, hJ3, _⟩ | ⟨rfl, hJx3⟩)
      · gi_wp2
        go_end0
        exact ⟨⟨_, rfl⟩, .inl ⟨_, Hx.out.symm, hJ3⟩⟩
      · gi_wp2
        go_end0
        exact ⟨⟨_, rfl⟩, .inr ⟨_, ⟨[], by rw [Hx.out]; simp⟩, hJx3⟩⟩
    · obtain ⟨i, hi⟩ := Int.eq_ofNat_of_zero_le (show 0 ≤ Lib.indexByte s.data.toList c by omega)
      obtain ⟨hlt, hsp⟩ := splitB_some c _ i hi
      rw [hsp] at hx
      have hlt' : i < s.size := hlt
      obtain ⟨fn, tmps, assign, body, hy, hR⟩ := hY pre (s.data.toList.take i) wr hJw ⟨_, hx⟩
      rw [take_extract] at hy
      have Hi := Lib.hid hi
      have Hx := Lib.hid hx
      clear hx hi hsp hneg hlt
      gi_wp2_with fail
      refine ⟨trivial, ?_⟩
      refine (callsIn_wide.2 (Tryz.strings_Index_one s c _)).mono ?_
      rintro e w' ⟨rfl, rfl⟩
      rw [Hi.out]
      gi_wp2
      refine hR.mono ?_
      rintro e W3 (⟨rfl, hJ3, hk3⟩ | ⟨rfl, hJx3⟩)
      · have c1 : W3.cell? ⟨bs, 0, none⟩ = some (.string s) := (World.cell?_of_block (hk3 bs (.inl rfl))).trans cs
        have c2 : W3.frozen? ⟨bs, 0, none⟩ = false := (World.frozen?_of_block (hk3 bs (.inl rfl))).trans cf
        have c3 : W3.cell? ⟨bp, 0, none⟩ = some (.string ⟨#[c]⟩) := (World.cell?_of_block (hk3 bp (.inr (.inl rfl)))).trans cp
        have c4 : W3.cell? ⟨bv, 0, none⟩ = some (.int .i64 0) := (World.cell?_of_block (hk3 bv (.inr (.inr rfl)))).trans cv
        have d1 : (W3.setCell ⟨bs, 0, none⟩ (.string (s.extract (i + 1) s.size))).cell? ⟨bs, 0, none⟩ = some (.string (s.extract (i + 1) s.size)) := World.cell?_setCell_same' _ _ _ (by rw [c1]; rfl)
        have d2 : (W3.setCell ⟨bs, 0, none⟩ (.string (s.extract (i + 1) s.size))).frozen? ⟨bs, 0, none⟩ = false := by rw [World.frozen?_setCell]; exact c2
        have d3 : (W3.setCell ⟨bs, 0, none⟩ (.string (s.extract (i + 1) s.size))).cell? ⟨bp, 0, none⟩ = some (.string ⟨#[c]⟩) := by
          rw [World.cell?_setCell_other _ _ _ _ (by intro e; injection e with e; exact hne.1 e)]; exact c3
        have d4 : (W3.setCell ⟨bs, 0, none⟩ (.string (s.extract (i + 1) s.size))).cell? ⟨bv, 0, none⟩ = some (.int .i64 0) := by
          rw [World.cell?_setCell_other _ _ _ _ (by intro e; injection e with e; exact hne.2 e)]; exact c4
        have hsr := size_rest s i
        have hJ4 := hJs _ _ (.string (s.extract (i + 1) s.size)) hJ3
        have hx4 : splitB c s0.data.toList = (pre ++ [s.data.toList.take i]) ++ splitB c (s.extract (i + 1) s.size).data.toList := by
          rw [Hx.out, Lib.extract_to_end, List.append_assoc]; rfl
        have hm4 : lenAt (W3.setCell ⟨bs, 0, none⟩ (.string (s.extract (i + 1) s.size))) ⟨bs, 0, none⟩ < lenAt w' ⟨bs, 0, none⟩ := by
          rw [lenAt_of d1, lenAt_of cs, hsr]; omega
        have hle4 : (s.extract (i + 1) s.size).size ≤ s0.size := by rw [hsr]; omega
        have D := Lib.hid (And.intro d1 (And.intro d2 (And.intro d3 (And.intro d4 (And.intro hx4 (And.intro hm4 hle4))))))
        clear d1 d2 d3 d4 hsr hx4 hm4 hle4
        gi_wp2
        obtain ⟨d1, d2, d3, d4, hx4, hm4, hle4⟩ := D.out
        exact ⟨⟨_, _, hx4, hle4, hJ4, d1, d2, d3, d4⟩, hm4⟩
      · gi_wp2
        refine bodyPost_ret (results_none rfl _ _ _) rfl ?_
        exact ⟨⟨_, rfl⟩, .inr ⟨_, ⟨_, by rw [Hx.out, List.append_assoc]; rfl⟩, hJx3⟩⟩
end Go.Proofs.YtidlpdiephlkhaaGreatDoor
