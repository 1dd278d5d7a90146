/-
  What layer 13's Few comes to: if it is true, a tree has few parts, and each is small.
-/
import Derived.Test.YtidlpdiephlkhaaGreatDoorZFew10
import Derived.Test.YtidlpdiephlkhaaGreatDoorZFew12
import Derived.Test.YtidlpdiephlkhaaGreatDoorZ38
import Derived.Test.YtidlpdiephlkhaaGreatDoorZ33
import Derived.Test.YtidlpdiephlkhaaGreatDoorZ44
namespace Go.Proofs.YtidlpdiephlkhaaGreatDoor
open Go.RowKit

/-- A part as it is handed in: nothing is longer than memory. -/
def BigN (p : TreeM) : Prop := SmallF maxLen p.fields ∧ p.typ.1.length ≤ maxLen ∧ p.typ.2.1.length ≤ maxLen ∧ (∀ x ∈ p.typ.2.2, x.1.length ≤ maxLen ∧ x.2.length ≤ maxLen) ∧ p.body.length ≤ maxLen
/-- A part that is small. -/
def FewN (p : TreeM) : Prop := FewF p.fields ∧ FewC p.typ ∧ p.body.length ≤ 3000 ∧ p.parts.length ≤ 20
/-- A tree of few parts that are small. -/
def FewT (p : TreeM) : Prop := countM p ≤ 40 ∧ ∀ q ∈ nodesM p, FewN q
theorem FewN.ok {p : TreeM} (h : FewN p) : OkP p := by
  obtain ⟨h1, h2, h3, _⟩ := h
  obtain ⟨c1, c2, c3, c4⟩ := h2
  have hs := h1.small
  refine ⟨⟨fun f hf => by have := hs f hf; omega, ⟨by omega, by omega, fun x hx => by have := c2 x hx; omega⟩, by omega⟩, by have := h1.1; omega, by omega⟩
theorem counts_bound : ∀ (l : List TreeM), (∀ q ∈ l, countM q ≤ 40) → countsM l ≤ 40 * l.length
  | [], _ => by simp [countsM]
  | p :: l, h => by
    have ih := counts_bound l fun q hq => h q (List.mem_cons_of_mem _ hq)
    have := h p (List.mem_cons_self ..)
    unfold countsM
    rw [List.length_cons]
    omega
theorem nodes_kid {p q r : TreeM} (hq : q ∈ p.parts) (hr : r ∈ nodesM q) : r ∈ nodesM p := by
  rw [nodes_parts]
  exact List.mem_cons_of_mem _ (nodess_mem hq hr)
theorem nodess_ofF {l : List TreeM} {q : TreeM} (h : q ∈ nodessM l) : ∃ p ∈ l, q ∈ nodesM p := by
  induction l with
  | nil => cases h
  | cons p l ih =>
    rcases List.mem_append.1 (show q ∈ nodesM p ++ nodessM l from h) with h | h
    · exact ⟨p, List.mem_cons_self .., h⟩
    · obtain ⟨r, hr, hq⟩ := ih h
      exact ⟨r, List.mem_cons_of_mem _ hr, hq⟩
def FewPost13 (p : TreeM) (w : World) (e : Ending) (w' : World) : Prop := ∃ b : Bool, e = .returned (.bool b) ∧ (b = true → FewT p) ∧ Below w.heap.size w w'

set_option maxRecDepth 100000 in
set_option maxHeartbeats 8000000 in
theorem few13_any (B : Nat) : ∀ (dd : Nat) (p : TreeM) (fv pv rv : Value) (k : Nat) (w : World), k + dd = 7 → (∀ q ∈ nodesM p, BigN q) → TreeAt w B p fv pv rv → B ≤ w.heap.size →
    Calls Tryz.prog 14 #[partV p fv pv rv, .int .i64 (k : Int)] w (FewPost13 p w)
  | 0, p, fv, pv, rv, k, w, hk, hbig, hT, hB => by
    obtain ⟨⟨a1, n1, c1, rfl⟩, ⟨a2, n2, c2, rfl⟩, ⟨a3, n3, c3, rfl⟩⟩ := hT.slices
    obtain rfl : k = 7 := by omega
    have b0 := Lib.hid (Below.refl w.heap.size w)
    unfold partV
    obtain ⟨X, hX⟩ : ∃ X, textQ p.typ.1 = X := ⟨_, rfl⟩
    obtain ⟨Y, hY⟩ : ∃ Y, textQ p.typ.2.1 = Y := ⟨_, rfl⟩
    obtain ⟨D, hD⟩ : ∃ D, textQ p.body = D := ⟨_, rfl⟩
    rw [hX, hY, hD]
    clear hT hbig hX hY hD hB
    go_enter Tryz.func14, Tryz.ntmps14
    go_wp2
    go_ret
    exact ⟨false, rfl, (fun h => by cases h), b0.out.alloc (Nat.le_refl _) _⟩
  | dd + 1, p, fv, pv, rv, k, w, hk, hbig, hT, hB => by
    obtain ⟨⟨a1, n1, c1, rfl⟩, ⟨a2, n2, c2, rfl⟩, _⟩ := hT.slices
    obtain ⟨a3, c3, rfl, hc3, hm3⟩ := hT.len
    have IH := Lib.hid (few13_any B dd)
    have hk6 : (k : Int) ≤ 6 := by omega
    obtain ⟨n3, hn3⟩ : ∃ n3, p.parts.length = n3 := ⟨_, rfl⟩
    rw [hn3] at hT hc3 ⊢
    unfold maxLen at hm3
    unfold partV
    obtain ⟨X, hX⟩ : ∃ X, textQ p.typ.1 = X := ⟨_, rfl⟩
    obtain ⟨Y, hY⟩ : ∃ Y, textQ p.typ.2.1 = Y := ⟨_, rfl⟩
    obtain ⟨D, hD⟩ : ∃ D, textQ p.body = D := ⟨_, rfl⟩
    have hself := hbig p (by rw [nodes_parts]; exact List.mem_cons_self ..)
    have hDs : D.size = p.body.length := by rw [← hD]; rfl
    have hDm : D.size ≤ 2 ^ 63 - 1 := by rw [hDs]; exact hself.2.2.2.2
    have hA : Hid (∀ W, Below w.heap.size w W → TreeAt W B p (.slice a1 n1 c1) (.slice a2 n2 c2) (.slice a3 n3 c3) ∧ B ≤ W.heap.size) := Lib.hid fun W hW => ⟨hT.below hW hB, Nat.le_trans hB hW.size⟩
    have hf10 : Hid (∀ W, Below w.heap.size w W → Calls Tryz.prog 26 #[.slice a1 n1 c1] W (FewPost p.fields W)) := Lib.hid fun W hW => few10_any B _ p.fields W (hA.out W hW).1.f (hA.out W hW).2 hself.1
    have hf12 : Hid (∀ W, Below w.heap.size w W → Calls Tryz.prog 34 #[.agg #[.string X, .string Y, .slice a2 n2 c2]] W (FewPostC p.typ W)) := Lib.hid fun W hW => by
      have := few12_any B _ p.typ W (hA.out W hW).1.t (hA.out W hW).2 hself.2.1 hself.2.2.1 hself.2.2.2.1
      unfold typeV at this
      rw [hX, hY] at this
      exact this
    have hcnt : Hid (countM p ≤ 1000000 → ∀ W, Below w.heap.size w W → Calls Tryz.prog 18 #[.agg #[.slice a1 n1 c1, .string X, .string Y, .slice a2 n2 c2, .string D, .slice a3 n3 c3]] W fun e w' => e = .returned (.int .i64 (countM p)) ∧ Below W.heap.size W w') := Lib.hid fun hc W hW => by
      have := r13count_any B (countM p) p (Nat.le_refl _) _ _ _ W (hA.out W hW).1 (hA.out W hW).2 hc
      unfold partV at this
      rw [hX, hY, hD] at this
      exact this
    rw [hX, hY, hD]
    obtain ⟨w1, hw1⟩ : ∃ w1, w.alloc (.cells #[.slice a1 n1 c1, .string X, .string Y, .slice a2 n2 c2, .string D, .slice a3 n3 c3] 29) = w1 := ⟨_, rfl⟩
    have b1 : Below w.heap.size w w1 := by rw [← hw1]; exact (Below.refl _ _).alloc (Nat.le_refl _) _
    have p1 : PrtAt w1 w.heap.size (.slice a1 n1 c1) (.string X) (.string Y) (.slice a2 n2 c2) (.string D) (.slice a3 n3 c3) := by rw [← hw1]; exact prt_new w _ _ _ _ _ _
    have K1 : Hid (Below w.heap.size w w1 ∧ PrtAt w1 w.heap.size (.slice a1 n1 c1) (.string X) (.string Y) (.slice a2 n2 c2) (.string D) (.slice a3 n3 c3)) := Lib.hid ⟨b1, p1⟩
    have step : Hid (∀ W W', (Below w.heap.size w W ∧ PrtAt W w.heap.size (.slice a1 n1 c1) (.string X) (.string Y) (.slice a2 n2 c2) (.string D) (.slice a3 n3 c3)) → Below W.heap.size W W' → (Below w.heap.size w W' ∧ PrtAt W' w.heap.size (.slice a1 n1 c1) (.string X) (.string Y) (.slice a2 n2 c2) (.string D) (.slice a3 n3 c3))) := Lib.hid fun W W' ⟨h1, h2⟩ hb => ⟨h1.trans (hb.mono h1.size), h2.below hb⟩
    have HN := Lib.hid (And.intro hn3 (And.intro hDs hbig))
    have Hk := Lib.hid hk
    obtain ⟨x0, x1, x2, x3, x4, x5, -⟩ := p1.cells
    clear hT hX hY hD hself hn3 b1 p1 hbig hDs hk
    by_cases h20 : 20 < n3
    · have h20i : (20 : Int) < (n3 : Int) := by omega
      clear h20
      go_enter Tryz.func14, Tryz.ntmps14
      go_wp2
      go_ret
      exact ⟨false, rfl, (fun h => by cases h), K1.out.1⟩
    · have h20i : (n3 : Int) ≤ 20 := by omega
      have h1 := hf10.out w1 K1.out.1
      clear hf10
      go_enter Tryz.func14, Tryz.ntmps14
      go_wp2_with fail
      refine h1.mono ?_
      rintro e w2 ⟨b, rfl, hfb, hb⟩
      have K2 := Lib.hid (step.out _ _ K1.out hb)
      obtain ⟨x0, x1, x2, x3, x4, x5, -⟩ := K2.out.2.cells
      clear h1 hb K1 hw1
      cases b with
      | false =>
        clear hfb
        go_wp2
        go_ret
        exact ⟨false, rfl, (fun h => by cases h), K2.out.1⟩
      | true =>
        have HF := Lib.hid (hfb rfl)
        have h2 := hf12.out w2 K2.out.1
        clear hfb hf12
        go_wp2_with fail
        refine h2.mono ?_
        rintro e w3 ⟨b, rfl, hcb, hb⟩
        have K3 := Lib.hid (step.out _ _ K2.out hb)
        obtain ⟨x0, x1, x2, x3, x4, x5, -⟩ := K3.out.2.cells
        clear h2 hb K2
        cases b with
        | false =>
          clear hcb
          go_wp2
          go_ret
          exact ⟨false, rfl, (fun h => by cases h), K3.out.1⟩
        | true =>
          have HC := Lib.hid (hcb rfl)
          clear hcb
          by_cases h3k : 3000 < D.size
          · have h3i : (3000 : Int) < (D.size : Int) := by omega
            clear h3k
            go_wp2
            go_ret
            exact ⟨false, rfl, (fun h => by cases h), K3.out.1⟩
          · have h3i : (D.size : Int) ≤ 3000 := by omega
            have HS : Hid (FewN p) := Lib.hid ⟨HF.out, HC.out, by rw [← HN.out.2.1]; omega, by rw [HN.out.1]; omega⟩
            clear h3k HF HC
            go_wp2
            go_loopw [5] (fun iv wr => ∃ i : Nat, i ≤ n3 ∧ iv = .int .i64 i ∧ Hid (∀ j (hj : j < p.parts.length), j < i → FewT p.parts[j]) ∧ Hid (Below w.heap.size w wr ∧ PrtAt wr w.heap.size (.slice a1 n1 c1) (.string X) (.string Y) (.slice a2 n2 c2) (.string D) (.slice a3 n3 c3))) (fun iv _ => n3 - (intOf iv).toNat)
            case atStart => exact ⟨0, by omega, rfl, Lib.hid (fun j _ h => by omega), K3⟩
            case round =>
              obtain ⟨i, hi, rfl, hg, hk2⟩ := hrel
              clear K3
              obtain ⟨y0, y1, y2, y3, y4, y5, -⟩ := hk2.out.2.cells
              by_cases hlt : i < n3
              · have hil : i < p.parts.length := by rw [HN.out.1]; exact hlt
                obtain ⟨hT1, hBW⟩ := hA.out wr hk2.out.1
                obtain ⟨g, off, a7, n7, q7, a8, n8, q8, a9, n9, q9, rfl, hgB, z0, z1, z2, z3, z4, z5, hkid⟩ := hT1.kid i hil
                have hcall := IH.out p.parts[i] _ _ _ (k + 1) wr (by have := Hk.out; omega) (fun q hq => HN.out.2.2 q (nodes_kid (List.getElem_mem hil) hq)) hkid hBW
                have hnx : Hid (FewT p.parts[i] → ∀ j (hj : j < p.parts.length), j < i + 1 → FewT p.parts[j]) := Lib.hid fun h j hj h2 => by
                  rcases Nat.lt_or_ge j i with h4 | h4
                  · exact hg.out j hj h4
                  · obtain rfl : j = i := by omega
                    exact h
                unfold partV at hcall
                rw [show (((k + 1 : Nat)) : Int) = (k : Int) + 1 by omega] at hcall
                obtain ⟨PX, hPX⟩ : ∃ X, textQ p.parts[i].typ.1 = X := ⟨_, rfl⟩
                obtain ⟨PY, hPY⟩ : ∃ X, textQ p.parts[i].typ.2.1 = X := ⟨_, rfl⟩
                obtain ⟨PD, hPD⟩ : ∃ X, textQ p.parts[i].body = X := ⟨_, rfl⟩
                rw [hPX, hPY, hPD] at hcall
                rw [hPX] at z1
                rw [hPY] at z2
                rw [hPD] at z4
                clear hT1 hkid hPX hPY hPD hgB hg hBW
                go_wp2_with fail
                refine hcall.mono ?_
                rintro e w7 ⟨b, rfl, hfb, hb⟩
                have K7 := Lib.hid (step.out _ _ hk2.out hb)
                clear hcall hb hk2 z0 z1 z2 z3 z4 z5 y0 y1 y2 y3 y4 y5
                cases b with
                | false =>
                  clear hfb hnx hil
                  go_wp2
                  go_ret
                  exact ⟨false, rfl, (fun h => by cases h), K7.out.1⟩
                | true =>
                  have Hg := Lib.hid (hnx.out (hfb rfl))
                  clear hfb hnx hil
                  go_wp2
                  go_roundw
                  case rel => exact ⟨i + 1, by omega, by go_num, Hg, K7⟩
                  case measure => simp [intOf]; omega
              · obtain rfl : i = n3 := by omega
                have Hall : Hid (∀ q ∈ p.parts, FewT q) := Lib.hid fun q hq => by
                  obtain ⟨j, hj, rfl⟩ := List.mem_iff_getElem.1 hq
                  exact hg.out j hj (by rw [← HN.out.1]; exact hj)
                have hcm : countM p ≤ 1000 := by
                  have h1 := counts_bound p.parts fun q hq => (Hall.out q hq).1
                  have h2 := count_parts p
                  have h3 := HN.out.1
                  omega
                have h9 := hcnt.out (by omega) wr hk2.out.1
                obtain ⟨cn, hcn⟩ : ∃ cn, countM p = cn := ⟨_, rfl⟩
                rw [hcn] at h9
                have Fin : Hid (cn ≤ 40 → FewT p) := Lib.hid fun h => ⟨by rw [hcn]; exact h, fun q hq => by
                  rw [nodes_parts] at hq
                  rcases List.mem_cons.1 hq with rfl | hq
                  · exact HS.out
                  · obtain ⟨r, hr, hq⟩ := nodess_ofF hq
                    exact (Hall.out r hr).2 q hq⟩
                clear hg hcm hcnt hcn
                go_wp2_with fail
                refine h9.mono ?_
                rintro e w8 ⟨rfl, hb⟩
                have K8 := Lib.hid (step.out _ _ hk2.out hb)
                clear h9 hb hk2
                by_cases h40 : cn ≤ 40
                · have h40i : (cn : Int) ≤ 40 := by omega
                  go_wp2
                  go_ret
                  exact ⟨true, (by first | rfl | simp), fun _ => Fin.out h40, K8.out.1⟩
                · have h40i : ¬ ((cn : Int) ≤ 40) := by omega
                  go_wp2
                  go_ret
                  exact ⟨false, (by first | rfl | simp; omega), (fun h => by cases h), K8.out.1⟩
end Go.Proofs.YtidlpdiephlkhaaGreatDoor
