/-
  Texts of this proof, put together: R13N.
-/
import Derived.Test.YtidlpdiephlkhaaGreatDoorZ34
namespace Go.Proofs.YtidlpdiephlkhaaGreatDoor
open Go.RowKit

/-- What the document's counting comes to. -/
def CountR (B : Nat) (p : TreeM) : Prop := ∀ (fv pv rv : Value) (W : World), TreeAt W B p fv pv rv → B ≤ W.heap.size → countM p ≤ 1000000 →
    Calls Tryz.prog 18 #[partV p fv pv rv] W fun e w' => e = .returned (.int .i64 (countM p)) ∧ Below W.heap.size W w'

set_option maxRecDepth 100000 in
set_option maxHeartbeats 4000000 in
theorem r13count_any (B : Nat) : ∀ (k : Nat) (p : TreeM), countM p ≤ k → CountR B p
  | 0, p, hk => by
    have := count_pos p
    omega
  | k + 1, p, hk => by
    intro fv pv rv w h hB hlim
    obtain ⟨⟨a1, n1, q1, rfl⟩, ⟨a2, n2, q2, rfl⟩, _⟩ := h.slices
    obtain ⟨a3, q3, rfl, hc3, hm3⟩ := h.len
    have hrec : Hid (∀ x ∈ p.parts, CountR B x) := Lib.hid fun x hx => r13count_any B k x (by have := count_parts p; have := count_mem hx; omega)
    have hA : Hid (∀ W, Below w.heap.size w W → TreeAt W B p (.slice a1 n1 q1) (.slice a2 n2 q2) (.slice a3 p.parts.length q3) ∧ B ≤ W.heap.size) := Lib.hid fun W hW => ⟨h.below hW hB, Nat.le_trans hB hW.size⟩
    have hsum := count_parts p
    unfold partV
    unfold maxLen at hm3
    obtain ⟨X, hX⟩ : ∃ X, textQ p.typ.1 = X := ⟨_, rfl⟩
    obtain ⟨Y, hY⟩ : ∃ X, textQ p.typ.2.1 = X := ⟨_, rfl⟩
    obtain ⟨D, hD⟩ : ∃ X, textQ p.body = X := ⟨_, rfl⟩
    obtain ⟨n3, hn3⟩ : ∃ n3, p.parts.length = n3 := ⟨_, rfl⟩
    obtain ⟨tot, htot⟩ : ∃ n, countM p = n := ⟨_, rfl⟩
    rw [hn3] at hA hc3
    rw [htot] at hlim hsum ⊢
    rw [hX, hY, hD, hn3]
    obtain ⟨w1, hw1⟩ : ∃ w1, w.alloc (.cells #[.slice a1 n1 q1, .string X, .string Y, .slice a2 n2 q2, .string D, .slice a3 n3 q3] 29) = w1 := ⟨_, rfl⟩
    have c1 : Below w.heap.size w w1 := by rw [← hw1]; exact (Below.refl _ _).alloc (Nat.le_refl _) _
    have p1 : PrtAt w1 w.heap.size (.slice a1 n1 q1) (.string X) (.string Y) (.slice a2 n2 q2) (.string D) (.slice a3 n3 q3) := by rw [← hw1]; exact prt_new w _ _ _ _ _ _
    have K1 : Hid (∀ W, Below w1.heap.size w1 W → PrtAt W w.heap.size (.slice a1 n1 q1) (.string X) (.string Y) (.slice a2 n2 q2) (.string D) (.slice a3 n3 q3) ∧ Below w.heap.size w W) := Lib.hid fun W hW => ⟨p1.below hW, c1.trans (hW.mono c1.size)⟩
    have r1 := Lib.hid (Below.refl w1.heap.size w1)
    have HN := Lib.hid (And.intro hn3 (And.intro htot hsum))
    clear h hX hY hD hn3 htot hsum c1 p1
    go_enter Tryz.func18, Tryz.ntmps18
    go_wp2
    go_loopw [3, 4] (fun nv iv wr => ∃ i n : Nat, i ≤ n3 ∧ iv = .int .i64 i ∧ nv = .int .i64 n ∧ Hid (n = 1 + countsM (p.parts.take i)) ∧ Hid (Below w1.heap.size w1 wr)) (fun _ iv _ => n3 - (intOf iv).toNat)
    case atStart => exact ⟨0, 1, by omega, rfl, rfl, Lib.hid (by simp [countsM]), r1⟩
    case round =>
      obtain ⟨i, n, hi, rfl, rfl, hg, hbr⟩ := hrel
      have HW := Lib.hid (K1.out wr hbr.out)
      obtain ⟨y0, y1, y2, y3, y4, y5, _⟩ := HW.out.1.cells
      by_cases hlt : i < n3
      · have hil : i < p.parts.length := by rw [HN.out.1]; exact hlt
        obtain ⟨hT1, hBW⟩ := hA.out wr HW.out.2
        obtain ⟨g, off, a7, n7, q7, a8, n8, q8, a9, n9, q9, rfl, hgB, z0, z1, z2, z3, z4, z5, hkid⟩ := hT1.kid i hil
        have htk := counts_take p.parts i hil
        have hle := count_mem (List.getElem_mem hil)
        have h1 := hrec.out p.parts[i] (List.getElem_mem hil) _ _ _ wr hkid hBW (by have := HN.out.2.2; omega)
        have hall : countsM (p.parts.take (i + 1)) ≤ countsM p.parts := counts_le p.parts (i + 1)
        obtain ⟨m, hm⟩ : ∃ m, countM p.parts[i] = m := ⟨_, rfl⟩
        have Hn := Lib.hid (show n + m = 1 + countsM (p.parts.take (i + 1)) by rw [hg.out, htk, hm]; omega)
        have hnm : n + m ≤ 1000000 := by have := HN.out.2.2; have := Hn.out; omega
        unfold partV at h1
        rw [hm] at h1
        obtain ⟨PX, hPX⟩ : ∃ X, textQ p.parts[i].typ.1 = X := ⟨_, rfl⟩
        obtain ⟨PY, hPY⟩ : ∃ X, textQ p.parts[i].typ.2.1 = X := ⟨_, rfl⟩
        obtain ⟨PD, hPD⟩ : ∃ X, textQ p.parts[i].body = X := ⟨_, rfl⟩
        rw [hPX] at h1 z1
        rw [hPY] at h1 z2
        rw [hPD] at h1 z4
        clear hT1 hkid hPX hPY hPD hgB hil hg htk hle hall hm
        go_wp2_with (go_at_call 18; refine h1.mono ?_; rintro e w7 ⟨rfl, hb⟩; have B7 := Lib.hid (hbr.out.trans (hb.mono hbr.out.size)); clear hb)
        go_roundw
        case rel => exact ⟨i + 1, n + m, by omega, by go_num, by go_num, Hn, B7⟩
        case measure => simp [intOf]; omega
      · obtain rfl : i = n3 := by omega
        have Hall := Lib.hid (show n = tot by
          rw [hg.out, HN.out.2.2, ← HN.out.1, List.take_length])
        clear hg
        go_wp2
        go_ret
        exact ⟨by rw [Hall.out]; rfl, HW.out.2⟩
end Go.Proofs.YtidlpdiephlkhaaGreatDoor
