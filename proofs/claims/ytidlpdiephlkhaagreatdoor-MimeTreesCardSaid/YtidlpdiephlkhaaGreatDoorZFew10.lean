/-
  What a law's Few comes to: if it is true, the fields are few and short.
-/
import Derived.Test.YtidlpdiephlkhaaGreatDoorZ13
import Derived.LoopIn
import Derived.Deep.LoopGhost
namespace Go.Proofs.YtidlpdiephlkhaaGreatDoor
open Go.RowKit

def costF (f : FieldH) : Nat := 1 + min f.1.length 10000 + min f.2.length 10000
def costsF (l : List FieldH) : Nat := (l.map costF).sum
/-- Fields that are few and short. -/
def FewF (l : List FieldH) : Prop := l.length ≤ 100 ∧ costsF l ≤ 8000
theorem cost_le : ∀ (l : List FieldH) (f : FieldH), f ∈ l → costF f ≤ costsF l
  | g :: l, f, h => by
    have e : costsF (g :: l) = costF g + costsF l := rfl
    rcases List.mem_cons.1 h with rfl | h
    · omega
    · have := cost_le l f h
      omega
theorem FewF.small {l : List FieldH} (h : FewF l) : SmallF 8000 l := fun f hf => by
  have h1 : costF f ≤ costsF l := cost_le l f hf
  have h2 := h.2
  unfold costF at h1
  omega
def FewPost (l : List FieldH) (w : World) (e : Ending) (w' : World) : Prop := ∃ b : Bool, e = .returned (.bool b) ∧ (b = true → FewF l) ∧ Below w.heap.size w w'
theorem costs_snoc (l : List FieldH) (f : FieldH) : costsF (l ++ [f]) = costsF l + costF f := by
  unfold costsF
  simp

set_option maxRecDepth 100000 in
set_option maxHeartbeats 4000000 in
theorem few10_any (B : Nat) (v : Value) (l : List FieldH) (w : World) (h : FieldsAt w B v l) (hB : B ≤ w.heap.size) (hsm : SmallF maxLen l) :
    Calls Tryz.prog 26 #[v] w (FewPost l w) := by
  obtain ⟨ao, cap, rfl, hc1, hc2, hat⟩ := h
  have Hat := Lib.hid hat
  have Hsm := Lib.hid hsm
  obtain ⟨n, hnl⟩ : ∃ n, l.length = n := ⟨_, rfl⟩
  have Hn := Lib.hid hnl
  unfold maxLen at hc2
  rw [hnl] at hc1 ⊢
  clear hat hsm hnl
  go_enter Tryz.func26, Tryz.ntmps26
  go_wp2
  go_loopw [3, 4] (fun nv iv wr => ∃ i k : Nat, i ≤ n ∧ i ≤ 100 ∧ iv = .int .i64 i ∧ nv = .int .i64 k ∧ k ≤ 8000 ∧ Hid (costsF (l.take i) = k) ∧ Below w.heap.size w wr) (fun _ iv _ => n - (intOf iv).toNat)
  case atStart => exact ⟨0, 0, by omega, by omega, rfl, rfl, by omega, Lib.hid rfl, Below.refl _ _⟩
  case round =>
    obtain ⟨i, k, hi, hi2, rfl, rfl, hk, hcost, hbr⟩ := hrel
    by_cases hlt : i < n
    · have hil : i < l.length := by rw [Hn.out]; exact hlt
      obtain ⟨g, off, rfl, hgB, z0, z1⟩ := Hat.out i hil
      obtain ⟨s0, s1⟩ := Hsm.out _ (List.getElem_mem hil)
      have htk : l.take (i + 1) = l.take i ++ [l[i]] := by rw [List.take_succ_eq_append_getElem hil]
      obtain ⟨f, hf⟩ : ∃ f, l[i] = f := ⟨_, rfl⟩
      rw [hf] at z0 z1 s0 s1 htk
      obtain ⟨X, hX⟩ : ∃ X, textQ f.1 = X := ⟨_, rfl⟩
      obtain ⟨Y, hY⟩ : ∃ Y, textQ f.2 = Y := ⟨_, rfl⟩
      have hXs : X.size = f.1.length := by rw [← hX]; rfl
      have hYs : Y.size = f.2.length := by rw [← hY]; rfl
      rw [hX] at z0
      rw [hY] at z1
      have hnext : Hid (costsF (l.take (i + 1)) = k + (1 + min X.size 10000 + min Y.size 10000)) := Lib.hid (by rw [htk, costs_snoc, hcost.out, hXs, hYs]; rfl)
      have y0 := (hbr.cell (p := ⟨g, off + i * 2, none⟩) (by show g < w.heap.size; omega)).trans z0
      have y1 := (hbr.cell (p := ⟨g, off + i * 2 + 1, none⟩) (by show g < w.heap.size; omega)).trans z1
      have hgr : g < wr.heap.size := by have := hbr.size; omega
      have hXm : X.size ≤ 9223372036854775807 := by unfold maxLen at s0; omega
      have hYm : Y.size ≤ 9223372036854775807 := by unfold maxLen at s1; omega
      clear z0 z1 s0 s1 htk hX hY hXs hYs hil hf hcost
      go_wp2_with fail
      go_quiet (fail)
      obtain ⟨K, hK, hK2⟩ : ∃ K : Nat, (k : Int) + 1 + min (X.size : Int) 10000 + min (Y.size : Int) 10000 = (K : Int) ∧ k + (1 + min X.size 10000 + min Y.size 10000) = K := ⟨_, by omega, rfl⟩
      rw [hK]
      rw [hK2] at hnext
      have hb2 := below_drewN hbr nq
      clear hK hK2 hbr y0 y1
      by_cases h100 : 100 ≤ i
      · go_wp2
        go_ret
        exact ⟨false, rfl, (fun h => by cases h), hb2⟩
      · by_cases h8 : 8000 < K
        · go_wp2
          go_ret
          exact ⟨false, rfl, (fun h => by cases h), hb2⟩
        · go_wp2
          go_roundw
          case rel => exact ⟨i + 1, K, by omega, by omega, by go_num, rfl, by omega, hnext, hb2⟩
          case measure => simp [intOf]; omega
    · obtain rfl : i = n := by omega
      have hfew : FewF l := ⟨by rw [Hn.out]; exact hi2, by
        have := hcost.out
        rw [List.take_of_length_le (by rw [Hn.out]; exact Nat.le_refl _)] at this
        omega⟩
      have Hf := Lib.hid hfew
      clear hfew hcost
      go_wp2
      go_ret
      exact ⟨true, rfl, fun _ => Hf.out, hbr⟩
end Go.Proofs.YtidlpdiephlkhaaGreatDoor
