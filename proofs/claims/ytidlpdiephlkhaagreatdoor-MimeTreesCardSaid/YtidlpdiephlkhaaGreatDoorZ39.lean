/-
  Texts of this proof, put together: R13V.
-/
import Derived.Test.YtidlpdiephlkhaaGreatDoorZ34
import Derived.Test.YtidlpdiephlkhaaGreatDoorZ19
namespace Go.Proofs.YtidlpdiephlkhaaGreatDoor
open Go.RowKit

theorem kids_one {w : World} {P : Nat → Prop} {l : List KidM} (h : KidsP w P l) : ∀ u ∈ kidsCells l, u.oneCell' = true := by
  intro u hu
  unfold kidsCells at hu
  obtain ⟨x, hx, hf⟩ := List.mem_flatMap.1 hu
  obtain ⟨⟨a1, n1, c1, e1⟩, ⟨a2, n2, c2, e2⟩, ⟨a3, n3, c3, e3⟩⟩ := (h x hx).slices
  simp only [kidCells, List.mem_cons, List.not_mem_nil, or_false, e1, e2, e3] at hf
  rcases hf with rfl | rfl | rfl | rfl | rfl | rfl <;> rfl
/-- A row of parts appended to another one. -/
theorem append_kids {w : World} {ops : Array Oper} {rest : List Oper} {o : Oper} {a : Act} {Q : Exit → Act → World → Prop} (hgd : o.guard = none) (s x : Operand)
    (ho : o.op = .call { callee := .builtin .append, args := #[s, x], argTypes := #[27, 27] }) (B : Nat) (v : Value) (l : List KidM) (hs : a.eval s = v) (hown : PartsOwn w B v l) (hB : B ≤ w.heap.size)
    (vx : Value) (k : List KidM) (Bx : Nat) (P : Nat → Prop) (hx : a.eval x = vx) (hat : PartsOwn w Bx vx k) (hk : KidsP w P k) (hl : l.length + k.length ≤ 1000000)
    (h : ∀ v' w', PartsOwn w' B v' (l ++ k) → w.grownBy w' v.ownBlock → wpList Tryz.prog ops Q rest (a.put o.dst v') w') : wpList Tryz.prog ops Q (o :: rest) a w := by
  obtain ⟨i0, hi, hz0, hz1, hz2⟩ := info_parts infoPart
  have hcells := fun (g : Nat) (hg : vx.ownBlock = some g) => World.ownsRow.cells hat hg
  obtain ⟨h1, h2⟩ := hat
  rcases h2 with ⟨rfl, h0⟩ | ⟨g, cap, cur, rfl, hg, hb, hc, hm, hs2, ht⟩
  · have hk0 : k = [] := List.eq_nil_of_length_eq_zero h0
    subst hk0
    refine wpList_append_own_none hgd s x 27 ho B 29 i0 6 Tryz.underlying27 hi v l.length (kidsCells l) hs hown hx ?_
    exact h v w (by rw [List.append_nil]; exact hown) ⟨rfl, rfl, rfl, Nat.le_refl _, fun _ _ _ => rfl⟩
  · refine wpList_append_own w hgd s x 27 ho B 29 i0 _ 6 120 Tryz.underlying27 hi hz0 hz1 hz2 rfl (by decide) v l.length (kidsCells l) hs hown ⟨g, 0, none⟩ k.length cap (kidsCells k) hx (kids_len k) (fun j u hj => hcells g rfl j u hj) (kids_one hk) (by unfold maxLen; omega) (by omega) hB (fun v' w' q1 q2 _ => ?_)
    refine h v' w' ?_ q2
    unfold PartsOwn
    rw [List.length_append, show kidsCells (l ++ k) = kidsCells l ++ kidsCells k by simp [kidsCells]]
    exact q1
mutual
theorem leaves_len : ∀ p : TreeM, (leavesM p).length ≤ countM p
  | .mk f t b l => by
    unfold leavesM countM
    have := leavess_len l
    split
    · simp
    · omega
theorem leavess_len : ∀ l : List TreeM, (leavessM l).length ≤ countsM l
  | [] => by simp [leavessM]
  | p :: l => by
    unfold leavessM countsM
    have := leaves_len p
    have := leavess_len l
    rw [List.length_append]
    omega
end
theorem leaves_bare (p : TreeM) (h : p.parts = []) : leavesM p = [p] := by
  obtain ⟨f, t, b, l⟩ := p
  have h' : l = [] := h
  subst h'
  rfl
theorem leaves_more (p : TreeM) (h : p.parts ≠ []) : leavesM p = leavessM p.parts := by
  obtain ⟨f, t, b, l⟩ := p
  unfold leavesM
  exact if_neg (by intro e; exact h (List.isEmpty_iff.1 e))
/-- What the document's leaves come to. -/
def LeavesR (B : Nat) (p : TreeM) : Prop := ∀ (fv pv rv : Value) (W : World), TreeAt W B p fv pv rv → B ≤ W.heap.size → countM p ≤ 1000000 →
    Calls Tryz.prog 16 #[partV p fv pv rv] W fun e w' => ∃ v kids, e = .returned v ∧ PartsOwn w' W.heap.size v kids ∧ KidsP w' (· < B) kids ∧ kids.map (·.1) = leavesM p ∧ Below W.heap.size W w'

set_option maxRecDepth 100000 in
set_option maxHeartbeats 4000000 in
theorem r13leaves_any (B : Nat) : ∀ (k : Nat) (p : TreeM), countM p ≤ k → LeavesR B p
  | 0, p, hk => by
    have := count_pos p
    omega
  | k + 1, p, hk => by
    intro fv pv rv w h hB hlim
    obtain ⟨⟨a1, n1, q1, rfl⟩, ⟨a2, n2, q2, rfl⟩, _⟩ := h.slices
    obtain ⟨a3, q3, rfl, hc3, hm3⟩ := h.len
    have hrec : Hid (∀ x ∈ p.parts, LeavesR B x) := Lib.hid fun x hx => r13leaves_any B k x (by have := count_parts p; have := count_mem hx; omega)
    have hA : Hid (∀ W, Below w.heap.size w W → TreeAt W B p (.slice a1 n1 q1) (.slice a2 n2 q2) (.slice a3 p.parts.length q3) ∧ B ≤ W.heap.size) := Lib.hid fun W hW => ⟨h.below hW hB, Nat.le_trans hB hW.size⟩
    have hsum := count_parts p
    unfold partV
    unfold maxLen at hm3
    obtain ⟨w1, hw1⟩ : ∃ w1, w.alloc (.cells #[.slice a1 n1 q1, .string (textQ p.typ.1), .string (textQ p.typ.2.1), .slice a2 n2 q2, .string (textQ p.body), .slice a3 p.parts.length q3] 29) = w1 := ⟨_, rfl⟩
    have c1 : Below w.heap.size w w1 := by rw [← hw1]; exact (Below.refl _ _).alloc (Nat.le_refl _) _
    obtain ⟨w9, hw9⟩ : ∃ w9, w1.alloc (.cells #[.slice a1 n1 q1, .string (textQ p.typ.1), .string (textQ p.typ.2.1), .slice a2 n2 q2, .string (textQ p.body), .slice a3 p.parts.length q3] 29) = w9 := ⟨_, rfl⟩
    have c9 : Below w.heap.size w w9 := by rw [← hw9]; exact c1.alloc c1.size _
    have HO : Hid (PartsOwn w9 w.heap.size (.slice (some ⟨w1.heap.size, 0, none⟩) 1 1) [(p, .slice a1 n1 q1, .slice a2 n2 q2, .slice a3 p.parts.length q3)] ∧ KidsP w9 (· < B) [(p, .slice a1 n1 q1, .slice a2 n2 q2, .slice a3 p.parts.length q3)] ∧ Below w.heap.size w w9) := Lib.hid ⟨by
        rw [← hw9]
        exact ⟨rfl, .inr ⟨w1.heap.size, 1, #[.slice a1 n1 q1, .string (textQ p.typ.1), .string (textQ p.typ.2.1), .slice a2 n2 q2, .string (textQ p.body), .slice a3 p.parts.length q3], rfl, c1.size, heap_alloc_new w1 _, Nat.le_refl _, by decide, rfl, rfl⟩⟩, fun x hx => by
        obtain rfl := List.mem_singleton.1 hx
        exact (hA.out w9 c9).1, c9⟩
    obtain ⟨X, hX⟩ : ∃ X, textQ p.typ.1 = X := ⟨_, rfl⟩
    obtain ⟨Y, hY⟩ : ∃ X, textQ p.typ.2.1 = X := ⟨_, rfl⟩
    obtain ⟨D, hD⟩ : ∃ X, textQ p.body = X := ⟨_, rfl⟩
    obtain ⟨n3, hn3⟩ : ∃ n3, p.parts.length = n3 := ⟨_, rfl⟩
    rw [hn3] at hA hc3
    rw [hX, hY, hD, hn3] at hw1 hw9
    rw [hX, hY, hD, hn3]
    have p1 : PrtAt w1 w.heap.size (.slice a1 n1 q1) (.string X) (.string Y) (.slice a2 n2 q2) (.string D) (.slice a3 n3 q3) := by rw [← hw1]; exact prt_new w _ _ _ _ _ _
    have K1 : Hid (∀ W, Below w1.heap.size w1 W → PrtAt W w.heap.size (.slice a1 n1 q1) (.string X) (.string Y) (.slice a2 n2 q2) (.string D) (.slice a3 n3 q3) ∧ Below w.heap.size w W) := Lib.hid fun W hW => ⟨p1.below hW, c1.trans (hW.mono c1.size)⟩
    have r1 := Lib.hid (And.intro (Below.refl w1.heap.size w1) c1.size)
    have HN := Lib.hid (And.intro hn3 (And.intro hlim hsum))
    obtain ⟨y0, y1, y2, y3, y4, y5, _⟩ := p1.cells
    clear h hX hY hD hlim hsum c1 p1 c9
    by_cases hz : n3 = 0
    · subst hz
      have hnil : p.parts = [] := List.eq_nil_of_length_eq_zero hn3
      have HL := Lib.hid (leaves_bare p hnil)
      rw [hn3] at HO
      clear hnil hn3
      go_enter Tryz.func16, Tryz.ntmps16
      go_wp2
      go_ret
      exact ⟨_, _, rfl, HO.out.1, HO.out.2.1, HL.out.symm, HO.out.2.2⟩
    · have HL := Lib.hid (leaves_more p (fun e => hz (by rw [← hn3, e]; rfl)))
      have hz' : ((n3 : Int) == 0) = false := by simpa using hz
      clear HO hw9 hn3
      go_enter Tryz.func16, Tryz.ntmps16
      go_wp2
      clear y0 y1 y2 y3 y4 y5
      go_loopw [3, 4] (fun lv iv wr => ∃ (i : Nat) (kids : List KidM) (ao : Option Addr) (nn cap : Nat), i ≤ n3 ∧ iv = .int .i64 i ∧ lv = .slice ao nn cap ∧ Hid (kids.map (·.1) = leavessM (p.parts.take i) ∧ kids.length = nn) ∧ Hid (PartsOwn wr w1.heap.size (.slice ao nn cap) kids ∧ KidsP wr (· < B) kids ∧ Below w1.heap.size w1 wr)) (fun _ iv _ => n3 - (intOf iv).toNat)
      case atStart => exact ⟨0, [], none, 0, 0, by omega, rfl, rfl, Lib.hid ⟨by simp [leavessM], rfl⟩, Lib.hid ⟨World.ownsRow_nil _ _ _ _, kids_nil _ _, r1.out.1⟩⟩
      case round =>
        obtain ⟨i, kids, ao, nn, cap, hi, rfl, rfl, hg, hbr⟩ := hrel
        have HW := Lib.hid (K1.out wr hbr.out.2.2)
        obtain ⟨y0, y1, y2, y3, y4, y5, _⟩ := HW.out.1.cells
        by_cases hlt : i < n3
        · have hil : i < p.parts.length := by rw [HN.out.1]; exact hlt
          obtain ⟨hT1, hBW⟩ := hA.out wr HW.out.2
          obtain ⟨g, off, a7, n7, q7, a8, n8, q8, a9, n9, q9, rfl, hgB, z0, z1, z2, z3, z4, z5, hkid⟩ := hT1.kid i hil
          have htk := leavess_take p.parts i hil
          have hle := count_mem (List.getElem_mem hil)
          have h1 := hrec.out p.parts[i] (List.getElem_mem hil) _ _ _ wr hkid hBW (by have := HN.out.2; omega)
          have hall : countsM (p.parts.take (i + 1)) ≤ countsM p.parts := counts_le p.parts (i + 1)
          have hln := leavess_len (p.parts.take (i + 1))
          have Hlen : Hid ((leavessM (p.parts.take (i + 1))).length ≤ 1000000) := Lib.hid (by have := HN.out.2; omega)
          rw [← hg.out.1] at htk
          unfold partV at h1
          obtain ⟨c, hc⟩ : ∃ c, p.parts[i] = c := ⟨_, rfl⟩
          rw [hc] at h1 z1 z2 z4 htk
          obtain ⟨PX, hPX⟩ : ∃ X, textQ c.typ.1 = X := ⟨_, rfl⟩
          obtain ⟨PY, hPY⟩ : ∃ X, textQ c.typ.2.1 = X := ⟨_, rfl⟩
          obtain ⟨PD, hPD⟩ : ∃ X, textQ c.body = X := ⟨_, rfl⟩
          rw [hPX] at h1 z1
          rw [hPY] at h1 z2
          rw [hPD] at h1 z4
          have Htk := Lib.hid htk
          clear hT1 hkid hPX hPY hPD hgB hil hle hall hc htk hln
          go_wp2_with (go_at_call 16
                       refine h1.mono ?_
                       rintro e w7 ⟨v, more, rfl, ho7, hk7, hm7, hb⟩
                       obtain ⟨bo, bcap, rfl⟩ := row_slice ho7
                       have B7 := Lib.hid (And.intro (hbr.out.2.2.trans (hb.mono hbr.out.2.2.size)) (And.intro (ownsRow_below4 hbr.out.1 hb) (And.intro (hbr.out.2.1.to (stay_below hb hBW)) (And.intro ho7 (And.intro hk7 hm7)))))
                       clear hb h1 ho7 hk7 hm7
                       refine HeldW.of ?_)
          unfold HeldW
          go_wp2_with (at_builtin; refine HeldW.of ?_)
          unfold HeldW
          have hl2 : kids.length + more.length ≤ 1000000 := by
            have h2 := Hlen.out
            rw [Htk.out, ← B7.out.2.2.2.2.2, List.length_append, List.length_map, List.length_map] at h2
            exact h2
          have hBw := B7.out.1.size
          refine append_kids rfl _ _ rfl w1.heap.size (.slice ao nn cap) kids rfl B7.out.2.1 hBw (.slice bo more.length bcap) more _ (· < B) rfl B7.out.2.2.2.1 B7.out.2.2.2.2.1 hl2 ?_
          intro v' w8 ho hgr
          obtain ⟨ao', cap', rfl⟩ := row_slice ho
          have hlen8 : (kids ++ more).length = nn + more.length := by rw [List.length_append, hg.out.2]
          have hF := B7.out.1.grown hgr hBw (fun q hq => (row_block B7.out.2.1 hq).1)
          have hst : StayP w7 (· < B) w8 (· < B) := by
            intro g hg hl
            have hne : (Value.slice ao nn cap).ownBlock ≠ some g := fun e => by
              have h1 := (row_block B7.out.2.1 e).1
              have h2 := r1.out.2
              have h3 : g < B := hg
              omega
            exact ⟨hg, fun j => cell_block (hgr.block g hl (fun e => hne e.symm))⟩
          have A8 := Lib.hid (And.intro ho (And.intro (show KidsP w8 (· < B) (kids ++ more) from fun x hx => by
            rcases List.mem_append.1 hx with hx | hx
            · exact (B7.out.2.2.1 x hx).to hst
            · exact (B7.out.2.2.2.2.1 x hx).to hst) (And.intro hF hlen8)))
          have Hm := Lib.hid (show (kids ++ more).map (·.1) = leavessM (p.parts.take (i + 1)) by rw [List.map_append, B7.out.2.2.2.2.2, Htk.out])
          obtain ⟨n8', hn8'⟩ : ∃ n, (kids ++ more).length = n := ⟨_, rfl⟩
          rw [hn8'] at A8 ⊢
          clear ho hgr hF hst hlen8 Hlen
          go_wp2
          go_roundw
          case rel => exact ⟨i + 1, kids ++ more, ao', n8', cap', by omega, by go_num, rfl, Lib.hid ⟨Hm.out, hn8'⟩, Lib.hid ⟨A8.out.1, A8.out.2.1, A8.out.2.2.1⟩⟩
          case measure => simp [intOf]; omega
        · obtain rfl : i = n3 := by omega
          have Fin : Hid (PartsOwn wr w.heap.size (.slice ao nn cap) kids ∧ KidsP wr (· < B) kids ∧ kids.map (·.1) = leavesM p ∧ Below w.heap.size w wr) := Lib.hid ⟨⟨hbr.out.1.1, hbr.out.1.2.imp id fun ⟨g, cap, cur, h1, h2, h3⟩ => ⟨g, cap, cur, h1, Nat.le_trans r1.out.2 h2, h3⟩⟩, hbr.out.2.1, by
            rw [hg.out.1, HL.out, ← HN.out.1, List.take_length], HW.out.2⟩
          clear hg hbr
          go_wp2
          go_ret
          exact ⟨_, _, rfl, Fin.out.1, Fin.out.2.1, Fin.out.2.2.1, Fin.out.2.2.2⟩
end Go.Proofs.YtidlpdiephlkhaaGreatDoor
