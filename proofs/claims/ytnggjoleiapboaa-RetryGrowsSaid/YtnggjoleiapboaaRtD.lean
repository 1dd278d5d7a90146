/-
  The plan of a message's tries: what Plan comes to.
-/
import Derived.Test.YtnggjoleiapboaaRtC
namespace Go.Proofs.Ytnggjoleiapboaa
open Go.RowKit Go.Maps

def HeldT (p : Prop) : Prop := p
theorem HeldT.of {p : Prop} (h : HeldT p) : p := h
/-- The tries that are left to be told. -/
def leftT (b t d e : Int) (over : Bool) : List Int := if over = true ∨ e ≠ 0 then [] else planF (5 - t).toNat b t d
theorem left_no {b t d e : Int} {over : Bool} (h : over = true ∨ e ≠ 0) : leftT b t d e over = [] := by
  unfold leftT
  rw [if_pos h]
/-- A turn that is told on is right, at its time. -/
def TellsT (b t d : Int) (over : Bool) (e : Int) : Prop := ¬ (over = true ∨ e ≠ 0) → rightT b t d = true
theorem fail_right {b t d : Int} (h : rightT b t d = true) : (failT b t d d).2.2 = 0 ∧ ((failT b t d d).2.1 = true ∨ ((failT b t d d).2.1 = false ∧ (failT b t d d).1.2.1 = t + 1 ∧ rightT (failT b t d d).1.1 (failT b t d d).1.2.1 (failT b t d d).1.2.2 = true)) := by
  obtain ⟨⟨p1, p2⟩, ⟨p3, p4⟩, p5, p6, p7⟩ := right_of h
  have hd : timeT d = true := by unfold timeT; simp; exact ⟨p3, p4⟩
  unfold failT
  rw [if_neg (by rw [h, hd]; simp), if_neg (by omega)]
  by_cases hc : t = 4 ∨ 40 < d - b ∨ 1099511627776 < d + waitT t
  · rw [if_pos hc]
    exact ⟨rfl, .inl rfl⟩
  · rw [if_neg hc]
    refine ⟨rfl, .inr ⟨rfl, rfl, ?_⟩⟩
    have hw := wait_few p6 p7
    show rightT b (t + 1) (d + waitT t) = true
    unfold rightT timeT
    simp only [Bool.and_eq_true, decide_eq_true_eq]
    omega
theorem left_yes {b t d : Int} (h : rightT b t d = true) : leftT b t d 0 false = d :: leftT (failT b t d d).1.1 (failT b t d d).1.2.1 (failT b t d d).1.2.2 (failT b t d d).2.2 (failT b t d d).2.1 := by
  obtain ⟨_, _, _, p6, p7⟩ := right_of h
  obtain ⟨e0, h2⟩ := fail_right h
  obtain ⟨n, hn⟩ : ∃ n : Nat, (5 - t).toNat = n + 1 := ⟨(5 - t).toNat - 1, by omega⟩
  conv =>
    lhs
    unfold leftT
  rw [if_neg (by simp), hn]
  unfold planF
  rw [e0]
  congr 1
  rcases h2 with h2 | ⟨h2, h3, _⟩
  · rw [h2, if_pos (.inl rfl), left_no (.inl rfl)]
  · rw [h2, if_neg (by simp)]
    unfold leftT
    rw [if_neg (by simp), h3]
    congr 1
    omega

theorem TrySt.heap {w w' : World} {T : Nat} {b t d e : Int} {over : Bool} (h : TrySt w T b t d e over) (hk : ∀ k, TryB T k → w'.heap[k]? = w.heap[k]?) : TrySt w' T b t d e over :=
  ⟨(hk T (.inl rfl)).trans h.turn, (hk (T + 1) (.inr (.inl rfl))).trans h.err, (hk (T + 2) (.inr (.inr rfl))).trans h.over⟩
theorem rnext_any (T : Nat) (b t d e : Int) (over : Bool) (acc P : List Int) (W : World) (h : TrySt W T b t d e over) (hr : TellsT b t d over e) (hp : acc ++ leftT b t d e over = P) :
    Calls Try.prog 19 #[.pointer (some ⟨T + 2, 0, none⟩), .pointer (some ⟨T + 1, 0, none⟩), .pointer (some ⟨T, 0, none⟩)] W fun r w' => ∃ (x : Int) (ok : Bool) (b' t' d' e' : Int) (o' : Bool), r = .returned (.tuple #[.int .i64 x, .bool ok]) ∧
      TrySt w' T b' t' d' e' o' ∧ TellsT b' t' d' o' e' ∧ (ok = true → acc ++ x :: leftT b' t' d' e' o' = P) ∧ (ok = false → acc = P) ∧ Turned (TryB T) W w' := by
  by_cases ho : over = true ∨ e ≠ 0
  · refine (rnext_no T b t d e over W h ho).mono ?_
    rintro r w' ⟨rfl, rfl⟩
    rw [left_no ho, List.append_nil] at hp
    exact ⟨0, false, b, t, d, e, over, rfl, h, hr, (fun h => by cases h), (fun _ => hp), Turned.refl _ _⟩
  · have hov : over = false := by
      cases over with
      | true => exact absurd (.inl rfl) ho
      | false => rfl
    have he : e = 0 := by
      by_cases he : e = 0
      · exact he
      · exact absurd (.inr he) ho
    subst hov he
    have hR := hr ho
    refine (rnext_yes T b t d W h).mono ?_
    rintro r w' ⟨rfl, h1, h2⟩
    refine ⟨d, true, _, _, _, _, _, rfl, h1, (fun hq => ?_), (fun _ => by rw [← hp, left_yes hR]), (fun h => by cases h), h2⟩
    obtain ⟨e0, h3 | ⟨_, _, h3⟩⟩ := fail_right hR
    · exact absurd (.inl h3) hq
    · exact h3

theorem next_keep {w w1 w4 w2 : World} {T n : Nat} {v : Value} {xs : List Value} (h : w4.ownsRow w1.heap.size 3 1 v n xs) (hb : Below w.heap.size w w4) (hz : w1.heap.size ≤ w4.heap.size) (hT : w.heap.size ≤ T) (z1 : T + 2 < w1.heap.size) (htu : Turned (TryB T) w4 w2) :
    w2.ownsRow w1.heap.size 3 1 v n xs ∧ Below w.heap.size w w2 ∧ w1.heap.size ≤ w2.heap.size := by
  refine ⟨htu.row h fun k hk hT => ?_, hb.trans (htu.below hb.size fun k hk => ?_), Nat.le_trans hz htu.size⟩
  · have := (row_block h hk).1
    unfold TryB at hT
    omega
  · unfold TryB at hk
    omega
set_option maxRecDepth 100000 in
set_option maxHeartbeats 4000000 in
theorem rplan_any (now : Int) (w : World) : Calls Try.prog 11 #[.int .i64 now] w fun r w' => ∃ v, r = .returned v ∧ TimesOwn w' w.heap.size v (planT now) ∧ Below w.heap.size w w' := by
  have ht := rtries_any now w
  obtain ⟨P, hP⟩ : ∃ P, planT now = P := ⟨_, rfl⟩
  have h5 : P.length ≤ 5 := by rw [← hP]; exact plan_five now
  have hst : Hid (∃ b t d e : Int, leftT b t d e false = P ∧ TellsT b t d false e ∧ ∀ W T, (if timeT now = true then TrySt W T now 0 now 0 false else TrySt W T 0 0 0 1 false) → TrySt W T b t d e false) := Lib.hid (by
    unfold planT at hP
    by_cases hq : timeT now = true
    · rw [if_pos hq] at hP
      refine ⟨now, 0, now, 0, ?_, fun _ => ?_, fun W T h => by rw [if_pos hq] at h; exact h⟩
      · rw [← hP]
        unfold leftT
        rw [if_neg (by simp)]
        rfl
      · unfold rightT
        rw [hq]
        simp
    · rw [if_neg hq] at hP
      exact ⟨0, 0, 0, 1, by rw [← hP]; exact left_no (.inr (by decide)), fun h => absurd (.inr (by decide)) h, fun W T h => by rw [if_neg hq] at h; exact h⟩)
  rw [hP]
  clear hP
  go_enter Try.func11, Try.ntmps11
  go_wp2_with fail
  refine ht.mono ?_
  rintro r w1 ⟨T, rfl, hT, hb, hs⟩
  obtain ⟨b, t, d, e, hl, htl, hs2⟩ := hst.out
  have K1 := Lib.hid (And.intro (hs2 w1 T hs) (And.intro hb (And.intro hl htl)))
  have z1 : T + 2 < w1.heap.size := K1.out.1.over.lt
  have hn1 := rnext_any T b t d e false [] P w1 K1.out.1 K1.out.2.2.2 K1.out.2.2.1
  unfold tryV
  clear ht hst hs hb hl htl hs2
  go_wp2_with fail
  refine hn1.mono ?_
  rintro r w2 ⟨x, ok, b2, t2, d2, e2, o2, rfl, hs, htl, hy, hno, htu⟩
  have K2 := Lib.hid (show TrySt w2 T b2 t2 d2 e2 o2 ∧ TellsT b2 t2 d2 o2 e2 ∧ (ok = true → [] ++ x :: leftT b2 t2 d2 e2 o2 = P) ∧ (ok = false → [] = P) ∧ TimesOwn w2 w1.heap.size (.slice none 0 0) [] ∧ Below w.heap.size w w2 ∧ w1.heap.size ≤ w2.heap.size from
    ⟨hs, htl, hy, hno, World.ownsRow_nil _ _ _ _, K1.out.2.1.trans (htu.below K1.out.2.1.size (fun k hk => by unfold TryB at hk; omega)), htu.size⟩)
  have hw1s := Lib.hid K1.out.2.1.size
  clear hn1 K1 hs htl hy hno htu
  go_wp2
  go_loopw [3, 5, 6] (fun lv xv kv wr => ∃ (acc : List Int) (x : Int) (ok : Bool) (ao : Option Addr) (nn cap : Nat) (b t d e : Int) (o : Bool), lv = .slice ao nn cap ∧ xv = .int .i64 x ∧ kv = .bool ok ∧ acc.length = nn ∧ nn ≤ 5 ∧ Hid (TrySt wr T b t d e o ∧ TellsT b t d o e ∧ (ok = true → acc ++ x :: leftT b t d e o = P) ∧ (ok = false → acc = P) ∧ TimesOwn wr w1.heap.size (.slice ao nn cap) acc ∧ Below w.heap.size w wr ∧ w1.heap.size ≤ wr.heap.size)) (fun lv _ kv _ => match lv, kv with
    | .slice _ n _, .bool true => 12 - 2 * n
    | .slice _ n _, _ => 11 - 2 * n
    | _, _ => 0)
  case atStart => exact ⟨[], x, ok, none, 0, 0, b2, t2, d2, e2, o2, rfl, rfl, rfl, rfl, by omega, K2⟩
  case round =>
    clear K2
    obtain ⟨acc, x, ok, ao, nn, cap, b, t, d, e, o, rfl, rfl, rfl, hnn, hn5, hk⟩ := hrel
    cases ok with
    | false =>
      have Fin := Lib.hid (show TimesOwn wr w.heap.size (.slice ao nn cap) P ∧ Below w.heap.size w wr from by
        obtain ⟨_, _, _, h1, h2, h3, _⟩ := hk.out
        rw [← h1 rfl]
        exact ⟨row_more h2 hw1s.out, h3⟩)
      clear hk
      go_wp2
      go_ret
      exact ⟨_, rfl, Fin.out.1, Fin.out.2⟩
    | true =>
      have hp := hk.out.2.2.1 rfl
      have hn4 : nn < 5 := by
        have := congrArg List.length hp
        rw [List.length_append, List.length_cons] at this
        omega
      have HK := Lib.hid hk.out
      clear hk hp
      go_wp2_with (at_builtin; refine HeldT.of ?_)
      unfold HeldT
      obtain ⟨w3, hw3⟩ : ∃ w3, wr.alloc (.cells #[.int .i64 x] 3) = w3 := ⟨_, rfl⟩
      rw [hw3]
      have b3 : Below wr.heap.size wr w3 := by rw [← hw3]; exact (Below.refl _ _).alloc (Nat.le_refl _) _
      have q3 := heap_alloc_new wr (.cells #[.int .i64 x] 3)
      rw [hw3] at q3
      have c3 := Lib.cell_of_heap q3 0
      obtain ⟨s1, s2, s3, s4, s5, s6, s7⟩ := HK.out
      have o3 : TimesOwn w3 w1.heap.size (.slice ao nn cap) acc := (Turned.of_below (S := fun _ => False) b3 (Nat.le_refl _)).row s5 (fun _ _ => id)
      refine append_time rfl _ _ rfl w1.heap.size (.slice ao nn cap) acc x rfl o3 (Nat.le_trans s7 b3.size) (by omega) wr.heap.size 1 rfl c3 ?_
      intro v' w4 ho hg
      obtain ⟨ao', cap', rfl⟩ := row_slice ho
      have hll : (acc ++ [x]).length = nn + 1 := by rw [List.length_append, hnn]; rfl
      rw [hll] at ho ⊢
      have hown : ∀ k, k < w1.heap.size → (Value.slice ao nn cap).ownBlock ≠ some k := fun k hk e => by
        have := (row_block o3 e).1
        omega
      have hk4 : ∀ k, k < w1.heap.size → w4.heap[k]? = wr.heap[k]? := fun k hk => (hg.block k (by have := b3.size; omega) (fun e => hown k hk e.symm)).trans (b3.block k (by omega))
      have st4 : TrySt w4 T b t d e o := s1.heap fun k hk => hk4 k (by unfold TryB at hk; omega)
      have z4 : w1.heap.size ≤ w4.heap.size := by have := b3.size; have := hg.size; omega
      have B4 : Below w.heap.size w w4 := ⟨hg.os.trans (b3.os.trans s6.os), hg.tape.trans (b3.tape.trans s6.tape), hg.output.trans (b3.output.trans s6.output), by have := hw1s.out; omega, fun k hk => (hk4 k (by have := hw1s.out; omega)).trans (s6.block k hk)⟩
      have hn1 := rnext_any T b t d e o (acc ++ [x]) P w4 st4 s2 (by rw [List.append_assoc]; exact s3 trivial)
      have K4 := Lib.hid (And.intro ho (And.intro B4 z4))
      clear hw3 b3 q3 c3 s1 s2 s3 s4 s5 s6 s7 o3 ho hg hk4 st4 B4 HK hown
      have hnx := Lib.hid (fun w2 (htu : Turned (TryB T) w4 w2) => next_keep K4.out.1 K4.out.2.1 K4.out.2.2 hT z1 htu)
      clear K4
      go_wp2_with fail
      refine hn1.mono ?_
      rintro r w2 ⟨x', ok, b2, t2, d2, e2, o2, rfl, hs, htl, hy, hno, htu⟩
      have K2 := Lib.hid (And.intro hs (And.intro htl (And.intro hy (And.intro hno (hnx.out w2 htu)))))
      clear hn1 hs htl hy hno htu hnx
      go_wp2
      refine ⟨⟨acc ++ [x], x', ok, ao', nn + 1, cap', b2, t2, d2, e2, o2, rfl, rfl, rfl, hll, by omega, K2⟩, ?_⟩
      cases ok <;> simp only <;> omega
end Go.Proofs.Ytnggjoleiapboaa
