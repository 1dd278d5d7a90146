/-
  Base64Counts returns true, for any list of texts: the walk.
-/
import Derived.Test.YteihmdjjofekoaaAwake3
import Derived.Test.YteihmdjjofekoaaStrL
import Derived.RegionCalls
namespace Go.Proofs.Yteihmdjjofekoaa
open Go.RowKit

set_option maxRecDepth 100000 in
set_option maxHeartbeats 4000000 in
theorem bcounts_walk (B n c : Nat) (A : Option Addr) (ss : List ByteArray) (m : Int) (w : World) (hB : B ≤ w.heap.size) (h1 : Strs w B A n c ss) (hm : w.cell? ⟨0, 0, none⟩ = some (.int .i64 m)) :
    Calls Try.prog 6 #[.slice A n c] w fun e w' => e = .returned (.bool true) ∧ Below w.heap.size w w' := by
  have haw := awake3_any m w hm
  go_enter Try.func6, Try.ntmps6
  go_wp2_with fail
  refine haw.mono ?_
  rintro e w1 ⟨rfl, hw1⟩
  clear haw hm
  by_cases hn : 50 < n
  · go_wp2
    go_ret
    exact ⟨rfl, hw1⟩
  go_wp2_with fail
  refine (new_any w1).mono ?_
  rintro e w2 ⟨rfl, hN, hw2⟩
  have b2 := hw1.trans (hw2.mono hw1.size)
  have hwz := hw1.size
  have hNl := hN.lt
  obtain ⟨N, hNe⟩ : ∃ N, w1.heap.size = N := ⟨_, rfl⟩
  rw [hNe] at hN hwz hNl ⊢
  clear hw2 hw1 hNe
  go_wp2
  go_loopw [4, 5, 6, 7, 8, 9] (fun kv iv _ _ _ _ wr => ∃ (k i : Nat), i ≤ n ∧ k ≤ 1000 * i ∧ kv = .int .i64 k ∧ iv = .int .i64 i ∧ CoderAt wr N k ∧ Below w.heap.size w wr ∧ N < wr.heap.size) (fun _ iv _ _ _ _ _ => n - (intOf iv).toNat)
  case atStart => exact ⟨0, 0, by omega, by omega, rfl, rfl, .inl hN, b2, hNl⟩
  case round =>
    obtain ⟨k, i, hi, hk, rfl, rfl, hat, hbr, hNl2⟩ := hrel
    clear hN
    by_cases hlt : i < n
    · have hs1 := h1.below (hbr.mono hB)
      obtain ⟨b, off, rfl, hbB, hcl⟩ := hs1.at_ hlt
      have hc := hcl i hlt
      obtain ⟨x, hx⟩ : ∃ x, ss.getD i ByteArray.empty = x := ⟨_, rfl⟩
      rw [hx] at hc
      have Hc : Hid (∀ W, Below w.heap.size w W → W.cell? ⟨b, off + i, none⟩ = some (.string x)) := Lib.hid fun W hW => by
        have := (h1.below (hW.mono hB)).at_ hlt
        obtain ⟨b', off', e, _, hcl'⟩ := this
        cases e
        rw [hcl' i hlt, hx]
      have hbz := hbr.size
      clear hcl hs1 hx
      by_cases hxs : 1000 < x.size
      · go_wp2
        go_ret
        exact ⟨rfl, hbr⟩
      · have hcd := cdec_any N k x wr hat (by omega)
        obtain ⟨d, y, j, hd, hy, hj, hl⟩ : ∃ (d : Option (List UInt8)) (y : ByteArray) (j : Int), decB x.data.toList = d ∧ decV d = .tuple #[.string y, .int .i64 j] ∧ (d.getD []).length = y.size ∧ y.size ≤ 1000 := by
          cases hd : decB x.data.toList with
          | none => exact ⟨none, ⟨#[]⟩, 2, rfl, rfl, rfl, Nat.zero_le _⟩
          | some l =>
            refine ⟨some l, ⟨l.toArray⟩, 0, rfl, rfl, rfl, ?_⟩
            have h1 := enc_dec x.data.toList l hd
            have h2 := enc_len l
            rw [h1] at h2
            have h3 : x.data.toList.length = x.size := rfl
            have h4 : (⟨l.toArray⟩ : ByteArray).size = l.length := rfl
            omega
        have hwrap : wrap64 ((k : Int) + (y.size : Int)) = ((k + y.size : Nat) : Int) := by
          rw [IntWalk.wrap64_in _ (by omega)]
          push_cast
          rfl
        rw [hd, hy, hj, hwrap] at hcd
        have Hdc : Hid (∀ W, Calls Try.prog 10 #[.string x] W fun e w' => e = .returned (.tuple #[.string y, .int .i64 j]) ∧ Below W.heap.size W w') := Lib.hid fun W => by
          have := dec_any x W (by omega)
          rw [hd, hy] at this
          exact this
        clear hwrap hd hy hj
        go_wp2_with fail
        refine hcd.mono ?_
        rintro e w3 ⟨rfl, hc3, hg3⟩
        have b3 : Below w.heap.size w w3 := hbr.trans (below_grown_at hg3 hbz hwz)
        have c3 := Hc.out w3 b3
        have l3 := hc3.lt
        clear hcd hat hc
        go_wp2_with fail
        refine (Hdc.out _).mono ?_
        rintro e w4 ⟨rfl, hw4⟩
        have hc4 := hc3.below hw4 l3
        have b4 := b3.trans (hw4.mono b3.size)
        have hco := count_any N ((k + y.size : Nat) : Int) (tabV 64) w4 1 hc4
        have c4 := Hc.out w4 b4
        have l4 := hc4.lt
        clear hc3 hg3 c3 hw4
        go_wp2_with fail
        refine hco.mono ?_
        rintro e w5 ⟨rfl, hw5⟩
        obtain rfl := hw5.symm
        clear hw5 hco
        go_wp2
        exact ⟨⟨k + y.size, i + 1, by omega, by omega, by go_num, by go_num, .inr hc4, b4, l4⟩, by simp [intOf]; omega⟩
    · go_wp2
      go_ret
      exact ⟨rfl, hbr⟩
end Go.Proofs.Yteihmdjjofekoaa
