/-
  What base64.Decode comes to: told by the plain function.
-/
import Derived.Test.YteihmdjjofekoaaT64
namespace Go.Proofs.Yteihmdjjofekoaa
open Go.RowKit

theorem zero_table : Try.zeroCells39 = Array.replicate 256 (.int .u8 0) := by kernel_rfl
theorem below_grown_at {w w' : World} {N B : Nat} (h : w.grownBy w' (some N)) (hB : B ≤ w.heap.size) (hN : B ≤ N) : Below B w w' := (Below.refl _ _).grown h hB fun k e => by cases e; exact hN
theorem tab_fresh (cs : Array Value) (k : Nat) (h : ∀ i, i < 256 → cs[k + i]? = some (.int .u8 0)) : TabIs cs k (fun _ => 0) := h

set_option maxRecDepth 100000 in
set_option maxHeartbeats 2000000 in
theorem dec_any (s : ByteArray) (w : World) (hs : s.size ≤ 100000000) :
    Calls Try.prog 10 #[.string s] w fun e w' => e = .returned (decV (decB s.data.toList)) ∧ Below w.heap.size w w' := by
  have hz := zero_table
  have hn : Held (w.alloc (.cells Try.zeroCells39 39)) w.heap.size Try.zeroCells39 39 := heap_alloc_new w _
  have hb := build_any w.heap.size 0 Try.zeroCells39 39 (fun _ => 0) _ hn (by rw [hz]; simp) (by rw [hz]; intro i hi; simp [hi])
  clear hz hn
  go_enter Try.func10, Try.ntmps10
  go_wp2_with (go_at_call 21; refine hb.mono ?_)
  rintro e w1 ⟨rfl, cs, hh, _, ht, hg⟩
  have hd := decode_any w.heap.size 0 cs 39 s w1 hh ht hs
  have hb1 : Below w.heap.size w w1 := ((Below.refl _ w).alloc (Nat.le_refl _) _).trans (below_grown_at hg (by simp) (Nat.le_refl _))
  obtain ⟨r, hr⟩ : ∃ r, decB s.data.toList = r := ⟨_, rfl⟩
  rw [hr] at hd
  have Hr := Lib.hid hr
  clear hr hb
  cases r with
  | none =>
    go_wp2_with (go_at_call 22; refine hd.mono ?_)
    rintro e w2 ⟨rfl, hw2⟩
    unfold decV
    go_wp2
    go_ret2
    exact ⟨by rw [Hr.out]; rfl, hb1.trans (hw2.mono hb1.size)⟩
  | some l =>
    go_wp2_with (go_at_call 22; refine hd.mono ?_)
    rintro e w2 ⟨rfl, hw2⟩
    unfold decV
    go_wp2
    go_ret2
    exact ⟨by rw [Hr.out]; rfl, hb1.trans (hw2.mono hb1.size)⟩
end Go.Proofs.Yteihmdjjofekoaa
