/-
  What layer 12's Few and awake come to.
-/
import Derived.Test.YtidlpdiephlkhaaGreatDoorZ27
namespace Go.Proofs.YtidlpdiephlkhaaGreatDoor
open Go.RowKit

/-- A type that is small enough. -/
def FewC (t : TypeC) : Prop := t.2.2.length ≤ 20 ∧ (∀ p ∈ t.2.2, p.1.length ≤ 200 ∧ p.2.length ≤ 200) ∧ t.1.length ≤ 200 ∧ t.2.1.length ≤ 200
def FewPostC (t : TypeC) (W : World) (e : Ending) (w' : World) : Prop := ∃ b : Bool, e = .returned (.bool b) ∧ (b = true → FewC t) ∧ Below W.heap.size W w'

set_option maxRecDepth 100000 in
set_option maxHeartbeats 4000000 in
theorem few12_any (B : Nat) (v : Value) (t : TypeC) (w : World) (h : ParsAt w B v t.2.2) (hB : B ≤ w.heap.size) (h1 : t.1.length ≤ maxLen) (h2 : t.2.1.length ≤ maxLen) (hs : ∀ p ∈ t.2.2, p.1.length ≤ maxLen ∧ p.2.length ≤ maxLen) :
    Calls Tryz.prog 34 #[typeV t v] w (FewPostC t w) := by
  obtain ⟨ao, cap, rfl, hc1, hc2⟩ := h.slice
  have Hat : Hid (∀ W, Below w.heap.size w W → ∀ i (hi : i < t.2.2.length), ∃ g off, ao = some ⟨g, off, none⟩ ∧ g < B ∧ W.cell? ⟨g, off + i * 2, none⟩ = some (.string (textQ t.2.2[i].1)) ∧ W.cell? ⟨g, off + i * 2 + 1, none⟩ = some (.string (textQ t.2.2[i].2))) := Lib.hid fun W hW i hi => by
    obtain ⟨ao2, cap2, e, _, _, h4⟩ := h.below hW hB
    cases e
    exact h4 i hi
  have HS := Lib.hid hs
  unfold typeV
  unfold maxLen at hc2 h1 h2
  obtain ⟨X, hX⟩ : ∃ X, textQ t.1 = X := ⟨_, rfl⟩
  obtain ⟨Y, hY⟩ : ∃ Y, textQ t.2.1 = Y := ⟨_, rfl⟩
  obtain ⟨n, hn⟩ : ∃ n, t.2.2.length = n := ⟨_, rfl⟩
  have hXs : X.size = t.1.length := by rw [← hX]; rfl
  have hYs : Y.size = t.2.1.length := by rw [← hY]; rfl
  rw [hn] at hc1
  rw [hX, hY, hn]
  have HF : Hid (n ≤ 20 → (∀ j (hj : j < t.2.2.length), j < n → t.2.2[j].1.length ≤ 200 ∧ t.2.2[j].2.length ≤ 200) → X.size ≤ 200 → Y.size ≤ 200 → FewC t) := Lib.hid fun q1 q2 q3 q4 => ⟨by omega, fun p hp => by
    obtain ⟨j, hj, rfl⟩ := List.mem_iff_getElem.1 hp
    exact q2 j hj (by omega), by omega, by omega⟩
  have HN := Lib.hid hn
  obtain ⟨w0, hw0⟩ : ∃ w0, w.alloc (.cells #[.string X, .string Y, .slice ao n cap] 26) = w0 := ⟨_, rfl⟩
  have b0 : Below w.heap.size w w0 := by rw [← hw0]; exact (Below.refl _ _).alloc (Nat.le_refl _) _
  have t0 : TypAt w0 w.heap.size X Y ao n cap := by rw [← hw0]; exact typ_new w _ _ _ _ _
  obtain ⟨c0, c1, c2, _⟩ := t0.cells
  have hX3 : X.size ≤ 2 ^ 63 - 1 := by omega
  have hY3 : Y.size ≤ 2 ^ 63 - 1 := by omega
  clear h hX hY hn hs t0 hXs hYs h1 h2
  go_enter Tryz.func34, Tryz.ntmps34
  go_wp2
  go_loopw [3] (fun iv wr => ∃ i : Nat, i ≤ n ∧ i ≤ 20 ∧ iv = .int .i64 i ∧ Hid (∀ j (hj : j < t.2.2.length), j < i → t.2.2[j].1.length ≤ 200 ∧ t.2.2[j].2.length ≤ 200) ∧ wr = w0) (fun iv _ => n - (intOf iv).toNat)
  case atStart => exact ⟨0, by omega, by omega, rfl, Lib.hid (fun j _ h => by omega), rfl⟩
  case round =>
    obtain ⟨i, hi, hi2, rfl, hg, hwr⟩ := hrel
    obtain rfl := hwr.symm
    clear hwr
    by_cases hlt : i < n
    · by_cases h20 : 20 ≤ i
      · clear hg HF
        go_wp2
        go_ret
        exact ⟨false, rfl, fun h => (by cases h), b0⟩
      · have hil : i < t.2.2.length := by rw [HN.out]; exact hlt
        obtain ⟨g, off, rfl, hgB, z0, z1⟩ := Hat.out w0 b0 i hil
        obtain ⟨m1, m2⟩ := HS.out _ (List.getElem_mem hil)
        have hyes : Hid (t.2.2[i].1.length ≤ 200 ∧ t.2.2[i].2.length ≤ 200 → ∀ j (hj : j < t.2.2.length), j < i + 1 → t.2.2[j].1.length ≤ 200 ∧ t.2.2[j].2.length ≤ 200) := Lib.hid fun h j hj h3 => by
          rcases Nat.lt_or_ge j i with h4 | h4
          · exact hg.out j hj h4
          · obtain rfl : j = i := by omega
            exact h
        obtain ⟨f, hf⟩ : ∃ f, t.2.2[i] = f := ⟨_, rfl⟩
        rw [hf] at z0 z1 m1 m2 hyes
        obtain ⟨P, hP⟩ : ∃ X, textQ f.1 = X := ⟨_, rfl⟩
        obtain ⟨Q, hQ⟩ : ∃ X, textQ f.2 = X := ⟨_, rfl⟩
        have hPs : P.size = f.1.length := by rw [← hP]; rfl
        have hQs : Q.size = f.2.length := by rw [← hQ]; rfl
        rw [hP] at z0
        rw [hQ] at z1
        rw [← hPs] at m1 hyes
        rw [← hQs] at m2 hyes
        unfold maxLen at m1 m2
        clear hf hP hQ hPs hQs hg
        by_cases q1 : 200 < P.size
        · clear hyes HF
          go_wp2
          go_ret
          exact ⟨false, rfl, fun h => (by cases h), b0⟩
        · by_cases q2 : 200 < Q.size
          · clear hyes HF
            go_wp2
            go_ret
            exact ⟨false, rfl, fun h => (by cases h), b0⟩
          · have Hy := Lib.hid (hyes.out ⟨by omega, by omega⟩)
            clear hyes
            go_wp2
            go_roundw
            case rel => exact ⟨i + 1, by omega, by omega, by go_num, Hy, (by first | rfl | trivial)⟩
            case measure => simp [intOf]; omega
    · obtain rfl : i = n := by omega
      have HF2 := Lib.hid (HF.out hi2 hg.out)
      clear HF hg
      by_cases q1 : X.size ≤ 200
      · have HF3 : Hid (∀ b : Bool, b = decide ((Y.size : Int) ≤ 200) → b = true → FewC t) := Lib.hid fun b hb hb2 => HF2.out q1 (by
          rw [hb2] at hb
          have := of_decide_eq_true hb.symm
          omega)
        clear HF2
        go_wp2
        go_ret
        exact ⟨_, rfl, HF3.out _ rfl, b0⟩
      · clear HF2
        go_wp2
        go_ret
        exact ⟨false, rfl, fun h => (by cases h), b0⟩
end Go.Proofs.YtidlpdiephlkhaaGreatDoor
