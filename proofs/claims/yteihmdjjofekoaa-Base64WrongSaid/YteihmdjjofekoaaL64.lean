/-
  base64.lines: the pieces of 76 letters, one by one, whatever the rounds do that leave its own cell alone.
-/
import Derived.Test.YteihmdjjofekoaaE64
import Derived.Test.YteihmdjjofekoaaBuildK
import Derived.RangeFuncBox
import Derived.RangeFuncNested
import Derived.RangeFuncBound
import Derived.RangeFuncFrom
import Derived.RangeFuncLeaves
import Derived.RangeFuncCalls
import Derived.Shelf.Abstract
import Derived.Shelf.RegionOpen
import Derived.OwnWalkIn
import Derived.TacticsInMore
import Derived.LoopNIn
import Derived.LoopIn
import Derived.Lib.Hide
namespace Go.Proofs.Yteihmdjjofekoaa
open Go.RowKit Go.Shelf

attribute [local go_sem] Oper.semAt_some

/-- Pieces of 76 bytes, the last one of what is left. -/
def chunkB (l : List UInt8) : List (List UInt8) := if _h : l = [] then [] else l.take 76 :: chunkB (l.drop 76)
termination_by l.length
decreasing_by
  have h0 : l ≠ [] := by assumption
  cases l with
  | nil => exact absurd rfl h0
  | cons a l => simp; omega
theorem chunk_nil : chunkB [] = [] := by rw [chunkB]; simp
theorem chunk_cons {l : List UInt8} (h : l ≠ []) : chunkB l = l.take 76 :: chunkB (l.drop 76) := by
  rw [chunkB, dif_neg h]
/-- A line with its end. -/
def lineE (x : List UInt8) : List UInt8 := x ++ [13, 10]
theorem fold_chunk (l : List UInt8) : ∀ n, l.length = n → foldB l = (chunkB l).flatMap lineE := by
  intro n
  induction n using Nat.strongRecOn generalizing l with
  | ind n ih =>
    intro hn
    by_cases h : l = []
    · subst h
      rw [fold_nil, chunk_nil]
      rfl
    · have hp : 0 < l.length := List.length_pos_iff.2 h
      rw [fold_cons h, chunk_cons h, List.flatMap_cons, ← ih (l.drop 76).length (by rw [List.length_drop]; omega) (l.drop 76) rfl]
      unfold lineE
      simp
theorem chunk_len (l : List UInt8) : ∀ n, l.length = n → ∀ x ∈ chunkB l, x.length ≤ 76 := by
  intro n
  induction n using Nat.strongRecOn generalizing l with
  | ind n ih =>
    intro hn x hx
    by_cases h : l = []
    · subst h
      rw [chunk_nil] at hx
      simp at hx
    · have hp : 0 < l.length := List.length_pos_iff.2 h
      rw [chunk_cons h, List.mem_cons] at hx
      rcases hx with rfl | hx
      · rw [List.length_take]; omega
      · exact ih (l.drop 76).length (by rw [List.length_drop]; omega) (l.drop 76) rfl x hx

set_option maxRecDepth 100000 in
theorem lines_any (s : ByteArray) (w : World) : Calls Try.prog 31 #[.string s] w fun e w' =>
    e = .returned (.func (.func 40) #[] #[.pointer (some ⟨w.heap.size, 0, none⟩)]) ∧ w' = w.alloc (.cells #[.string s] 9) := by
  have hmf : ∀ (fn : Fn) (first cap : Array Value) (w : World), (Instr.makeFunc fn first cap).run Try.prog w = .ok (.func fn first cap) w := fun _ _ _ _ => rfl
  go_enter Try.func31, Try.ntmps31
  go_wp2
  go_ret
  exact ⟨rfl, rfl⟩

set_option maxRecDepth 100000 in
set_option maxHeartbeats 2000000 in
theorem lines_in (n : Nat) (hn : 1 ≤ n) (l bs : Nat) (s : ByteArray) (J Jx : List (List UInt8) → World → Prop)
    (hY : ∀ pre x W, J pre W → (x.length ≤ 76 ∧ ∃ rest, chunkB s.data.toList = pre ++ x :: rest) → YieldAt Fence.wide (n - 1) Try.prog l #[.string ⟨x.toArray⟩] W fun e W' =>
      (e = .returned (.bool true) ∧ J (pre ++ [x]) W' ∧ W'.heap[bs]? = W.heap[bs]?) ∨ (e = .returned (.bool false) ∧ Jx (pre ++ [x]) W'))
    (W : World) (hs : W.cell? ⟨bs, 0, none⟩ = some (.string s)) (hsz : s.size ≤ 1000000000) (h0 : J [] W) :
    CallsIn Fence.wide n Try.prog 40 #[.func (.yield l) #[] #[], .pointer (some ⟨bs, 0, none⟩)] W fun e W' => (∃ v, e = .returned v) ∧
      ((∃ ys, ys = chunkB s.data.toList ∧ J ys W') ∨ (∃ pre, (∃ rest, chunkB s.data.toList = pre ++ rest) ∧ Jx pre W')) := by
  have hl : s.data.toList.length = s.size := rfl
  have Hl := Lib.hid hl
  clear hl
  refine callsIn_of_wp Try.func40 rfl trivial ?_ rfl
  simp only [Try.ntmps40, List.size_toArray, List.length_cons, List.length_nil, Nat.reduceAdd, Nat.reduceSub, Array.replicate_succ, Array.replicate_zero, List.push_toArray, List.append_toArray, List.nil_append, List.cons_append]
  gi_wp2
  gi_loopw [3] (fun av wr => ∃ (q : Nat) (pre : List (List UInt8)), q < s.size + 76 ∧ av = .int .i64 q ∧ chunkB s.data.toList = pre ++ chunkB (s.data.toList.drop q) ∧ J pre wr ∧ wr.cell? ⟨bs, 0, none⟩ = some (.string s)) (fun av _ => s.size + 76 - (intOf av).toNat)
  case atStart => exact ⟨0, [], by omega, rfl, rfl, h0, hs⟩
  case round =>
    obtain ⟨q, pre, hq, rfl, hx, hJw, hc⟩ := hrel
    by_cases hlt : q < s.size
    · have hne : s.data.toList.drop q ≠ [] := fun e => by
        have := List.drop_eq_nil_iff.1 e
        rw [Hl.out] at this
        omega
      have hX : (s.extract q (min ((q : Int) + 76) s.size).toNat).data.toList = (s.data.toList.drop q).take 76 := by
        rw [piece_data]
        rcases (by omega : q + 76 ≤ s.size ∨ s.size < q + 76) with h | h
        · rw [show (min ((q : Int) + 76) s.size).toNat - q = 76 by omega]
        · rw [List.take_of_length_le (by rw [List.length_drop, Hl.out]; omega), List.take_of_length_le (by rw [List.length_drop, Hl.out]; omega)]
      rw [chunk_cons hne, List.drop_drop, ← hX] at hx
      have hxl : (s.extract q (min ((q : Int) + 76) s.size).toNat).data.toList.length ≤ 76 := by rw [hX, List.length_take]; omega
      obtain ⟨fn, tmps, assign, body, hy, hR⟩ := hY pre (s.extract q (min ((q : Int) + 76) s.size).toNat).data.toList wr hJw ⟨hxl, _, hx⟩
      have hst : (⟨(s.extract q (min ((q : Int) + 76) s.size).toNat).data.toList.toArray⟩ : ByteArray) = s.extract q (min ((q : Int) + 76) s.size).toNat := rfl
      rw [hst] at hy
      have Hx := Lib.hid hx
      clear hst hx hX hne hxl
      gi_wp2
      refine hR.mono ?_
      rintro e W3 (⟨rfl, hJ3, hk3⟩ | ⟨rfl, hJx3⟩)
      · have c1 : W3.cell? ⟨bs, 0, none⟩ = some (.string s) := (World.cell?_of_block hk3).trans hc
        gi_wp2
        exact ⟨⟨q + 76, _, by omega, by go_num, by rw [Hx.out, List.append_assoc]; rfl, hJ3, c1⟩, by simp [intOf]; omega⟩
      · gi_wp2
        refine bodyPost_ret (results_none rfl _ _ _) rfl ?_
        exact ⟨⟨_, rfl⟩, .inr ⟨_, ⟨_, by rw [Hx.out, List.append_assoc]; rfl⟩, hJx3⟩⟩
    · have hnil : s.data.toList.drop q = [] := List.drop_eq_nil_of_le (by rw [Hl.out]; omega)
      rw [hnil, chunk_nil, List.append_nil] at hx
      have Hx := Lib.hid hx
      clear hnil hx
      gi_wp2
      go_end0
      exact ⟨⟨_, rfl⟩, .inl ⟨_, Hx.out.symm, hJw⟩⟩
end Go.Proofs.Yteihmdjjofekoaa
