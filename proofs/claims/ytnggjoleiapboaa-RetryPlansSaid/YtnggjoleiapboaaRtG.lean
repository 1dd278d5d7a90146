/-
  The document's answer of layer 15: the plan of a message's tries.
-/
import Derived.Test.YtnggjoleiapboaaRtE
namespace Go.Proofs.Ytnggjoleiapboaa
open Go.RowKit Go.Maps

/-- What stands between two rounds. -/
structure PlanSt (w W : World) (b t d : Int) (v : Value) (acc P : List Int) : Prop where
  turn : RTurnAt W w.heap.size b t d
  right : rightT b t d = true
  left : acc ++ leftT b t d 0 false = P
  own : TimesOwn W (w.heap.size + 1) v acc
  below : Below w.heap.size w W
  size : w.heap.size < W.heap.size
theorem PlanSt.len {w W : World} {b t d : Int} {v : Value} {acc P : List Int} (h : PlanSt w W b t d v acc P) : acc.length < P.length := by
  rw [← h.left, left_yes h.right, List.length_append, List.length_cons]
  omega
/-- A try told and failed. -/
theorem PlanSt.app {w W W3 W4 : World} {b t d : Int} {v v' : Value} {acc P : List Int} (h : PlanSt w W b t d v acc P) (b3 : Below W.heap.size W W3) (hg : W3.grownBy W4 v.ownBlock) (ho : TimesOwn W4 (w.heap.size + 1) v' (acc ++ [d])) :
    RTurnAt W4 w.heap.size b t d ∧ Below w.heap.size w W4 ∧ w.heap.size < W4.heap.size := by
  have hz := h.size
  have hz3 := b3.size
  have hz4 := hg.size
  have hk : ∀ k, k < w.heap.size + 1 → W4.heap[k]? = W.heap[k]? := fun k hk => (hg.block k (by omega) (fun e => by
    have := (row_block h.own e.symm).1
    omega)).trans (b3.block k (by omega))
  exact ⟨(hk _ (by omega)).trans h.turn, ⟨hg.os.trans (b3.os.trans h.below.os), hg.tape.trans (b3.tape.trans h.below.tape), hg.output.trans (b3.output.trans h.below.output), by omega, fun k hk2 => (hk k (by omega)).trans (h.below.block k hk2)⟩, by omega⟩

set_option maxRecDepth 100000 in
set_option maxHeartbeats 4000000 in
theorem r15plan_any (now : Int) (w : World) : Calls Try.prog 12 #[.int .i64 now] w fun r w' => ∃ v, r = .returned v ∧ TimesOwn w' w.heap.size v (planT now) ∧ Below w.heap.size w w' := by
  have ht := r15time_any now w
  obtain ⟨P, hP⟩ : ∃ P, planT now = P := ⟨_, rfl⟩
  have h5 : P.length ≤ 5 := by rw [← hP]; exact plan_five now
  have hst : Hid (timeT now = true → leftT now 0 now 0 false = P ∧ rightT now 0 now = true) := Lib.hid fun hq => by
    unfold planT at hP
    rw [if_pos hq] at hP
    refine ⟨?_, ?_⟩
    · rw [← hP]
      unfold leftT
      rw [if_neg (by simp)]
      rfl
    · unfold rightT
      rw [hq]
      simp
  have hno : Hid (timeT now = false → P = []) := Lib.hid fun hq => by
    unfold planT at hP
    rw [hq, if_neg (by simp)] at hP
    exact hP.symm
  rw [hP]
  clear hP
  cases hq : timeT now with
  | false =>
    rw [hq] at ht
    have HP := Lib.hid (hno.out hq)
    clear hst hno hq
    go_enter Try.func12, Try.ntmps12
    go_wp2_with (go_at_call 17; refine ht.mono ?_; rintro e w1 ⟨rfl, rfl⟩)
    go_ret
    exact ⟨_, rfl, by rw [HP.out]; exact World.ownsRow_nil _ _ _ _, Below.refl _ _⟩
  | true =>
    rw [hq] at ht
    obtain ⟨w1, hw1⟩ : ∃ w1, w.alloc (.cells #[.int .i64 now, .int .i64 0, .int .i64 now] 25) = w1 := ⟨_, rfl⟩
    have K1 : Hid (PlanSt w w1 now 0 now (.slice none 0 0) [] P) := Lib.hid (by
      obtain ⟨h1, h2⟩ := hst.out hq
      exact ⟨by rw [← hw1]; exact rturn_new w _ _ _, h2, h1, World.ownsRow_nil _ _ _ _, by rw [← hw1]; exact (Below.refl _ _).alloc (Nat.le_refl _) _, by rw [← hw1]; simp⟩)
    clear hst hno hq
    go_enter Try.func12, Try.ntmps12
    go_wp2_with (go_at_call 17; refine ht.mono ?_; rintro e w2 ⟨rfl, h9⟩; obtain rfl := h9.symm; clear h9)
    go_loopw [3] (fun lv wr => ∃ (acc : List Int) (ao : Option Addr) (nn cap : Nat) (b t d : Int), lv = .slice ao nn cap ∧ acc.length = nn ∧ Hid (PlanSt w wr b t d (.slice ao nn cap) acc P)) (fun lv _ => match lv with
      | .slice _ n _ => 6 - n
      | _ => 0)
    case atStart => exact ⟨[], none, 0, 0, now, 0, now, rfl, rfl, K1⟩
    case round =>
      clear K1
      obtain ⟨acc, ao, nn, cap, b, t, d, rfl, hnn, hk⟩ := hrel
      have hlt := hk.out.len
      obtain ⟨c0, c1, c2, f0, f1, f2⟩ := hk.out.turn.cells
      go_wp2_with (at_builtin; refine HeldT.of ?_)
      unfold HeldT
      obtain ⟨w3, hw3⟩ : ∃ w3, wr.alloc (.cells #[.int .i64 d] 3) = w3 := ⟨_, rfl⟩
      rw [hw3]
      have b3 : Below wr.heap.size wr w3 := by rw [← hw3]; exact (Below.refl _ _).alloc (Nat.le_refl _) _
      have q3 := heap_alloc_new wr (.cells #[.int .i64 d] 3)
      rw [hw3] at q3
      have k3 := Lib.cell_of_heap q3 0
      have o3 : TimesOwn w3 (w.heap.size + 1) (.slice ao nn cap) acc := (Turned.of_below (S := fun _ => False) b3 (Nat.le_refl _)).row hk.out.own (fun _ _ => id)
      refine append_time rfl _ _ rfl (w.heap.size + 1) (.slice ao nn cap) acc d rfl o3 (by have := hk.out.size; have := b3.size; omega) (by omega) wr.heap.size 1 rfl k3 ?_
      intro v' w4 ho hg
      obtain ⟨ao', cap', rfl⟩ := row_slice ho
      have hll : (acc ++ [d]).length = nn + 1 := by rw [List.length_append, hnn]; rfl
      rw [hll] at ho ⊢
      have K4 := Lib.hid (And.intro (hk.out.app b3 hg ho) (And.intro ho (And.intro hk.out.right hk.out.left)))
      clear hw3 b3 q3 k3 o3 ho hg c0 c1 c2 f0 f1 f2 hk
      obtain ⟨c0, c1, c2, f0, f1, f2⟩ := K4.out.1.1.cells
      have hf := r15failed_any b t d d w4
      rw [fail_v] at hf
      obtain ⟨e0, hfr⟩ := fail_right K4.out.2.2.1
      have hly := left_yes K4.out.2.2.1
      rw [e0] at hf hly
      obtain ⟨b', hb'⟩ : ∃ x, (failT b t d d).1.1 = x := ⟨_, rfl⟩
      obtain ⟨t', ht'⟩ : ∃ x, (failT b t d d).1.2.1 = x := ⟨_, rfl⟩
      obtain ⟨d', hd'⟩ : ∃ x, (failT b t d d).1.2.2 = x := ⟨_, rfl⟩
      obtain ⟨o', ho'⟩ : ∃ x, (failT b t d d).2.1 = x := ⟨_, rfl⟩
      rw [hb', ht', hd', ho'] at hf hfr hly
      clear hb' ht' hd' ho' e0
      cases o' with
      | true =>
        have HP : Hid (acc ++ [d] = P) := Lib.hid (by
          have := K4.out.2.2.2
          rw [hly, left_no (.inl rfl)] at this
          exact this)
        clear hfr hly
        go_wp2_with fail
        refine hf.mono ?_
        rintro r w5 ⟨rfl, hb⟩
        obtain ⟨w6, hw6⟩ : ∃ w6, w5.alloc (.cells #[.int .i64 b', .int .i64 t', .int .i64 d'] 25) = w6 := ⟨_, rfl⟩
        have Fin := Lib.hid (show TimesOwn w6 w.heap.size (.slice ao' (nn + 1) cap') P ∧ Below w.heap.size w w6 from by
          have hb6 : Below w4.heap.size w4 w6 := by rw [← hw6]; exact hb.alloc hb.size _
          rw [← HP.out]
          exact ⟨row_more ((Turned.of_below (S := fun _ => False) hb6 (Nat.le_refl _)).row K4.out.2.1 (fun _ _ => id)) (by omega), K4.out.1.2.1.trans (hb6.mono (by have := K4.out.1.2.2; omega))⟩)
        clear hf hb K4 HP
        go_wp2
        go_ret
        exact ⟨_, rfl, Fin.out.1, Fin.out.2⟩
      | false =>
        have HN : Hid (rightT b' t' d' = true ∧ (acc ++ [d]) ++ leftT b' t' d' 0 false = P) := Lib.hid (by
          have := K4.out.2.2.2
          rw [hly] at this
          refine ⟨?_, by rw [List.append_assoc]; exact this⟩
          rcases hfr with h | ⟨_, _, h⟩
          · cases h
          · exact h)
        clear hfr hly
        go_wp2_with fail
        refine hf.mono ?_
        rintro r w5 ⟨rfl, hb⟩
        obtain ⟨w6, hw6⟩ : ∃ w6, w5.alloc (.cells #[.int .i64 b', .int .i64 t', .int .i64 d'] 25) = w6 := ⟨_, rfl⟩
        have hb6 : Below w4.heap.size w4 w6 := by rw [← hw6]; exact hb.alloc hb.size _
        have rt6 := K4.out.1.1.below hb6
        obtain ⟨x0, x1, x2, y0, y1, y2⟩ := rt6.cells
        have nt6 : RTurnAt w6 w5.heap.size b' t' d' := by rw [← hw6]; exact rturn_new w5 _ _ _
        obtain ⟨z0, z1, z2, _⟩ := nt6.cells
        have hnn6 : w5.heap.size ≠ w.heap.size := by have := K4.out.1.2.2; have := hb.size; omega
        have Fin := Lib.hid (show PlanSt w (putT3 w6 w.heap.size b' t' d') b' t' d' (.slice ao' (nn + 1) cap') (acc ++ [d]) P from by
          have htu : Turned (fun k => k = w.heap.size) w4 (putT3 w6 w.heap.size b' t' d') := by
            have h0 : Turned (fun k => k = w.heap.size) w4 w6 := .of_below hb6 (Nat.le_refl _)
            unfold putT3
            have h1 := h0.trans (Turned.set (S := fun k => k = w.heap.size) (N := w.heap.size) (j := 0) (v := .int .i64 b') rfl) (fun _ h => .inl h)
            have h2 := h1.trans (Turned.set (S := fun k => k = w.heap.size) (N := w.heap.size) (j := 1) (v := .int .i64 t') rfl) (fun _ h => .inl h)
            exact h2.trans (Turned.set (S := fun k => k = w.heap.size) (N := w.heap.size) (j := 2) (v := .int .i64 d') rfl) (fun _ h => .inl h)
          exact ⟨rt6.put b' t' d', HN.out.1, HN.out.2, htu.row K4.out.2.1 (fun k hk e => by have := (row_block K4.out.2.1 hk).1; omega), K4.out.1.2.1.trans (htu.below (by have := K4.out.1.2.2; omega) (fun k hk => by omega)), Nat.lt_of_lt_of_le K4.out.1.2.2 htu.size⟩)
        unfold putT3 at Fin
        clear hf hb hb6 rt6 nt6 K4 HN
        go_wp2
        refine ⟨⟨acc ++ [d], ao', nn + 1, cap', b', t', d', rfl, hll, Fin⟩, ?_⟩
        simp only
        omega
end Go.Proofs.Ytnggjoleiapboaa
