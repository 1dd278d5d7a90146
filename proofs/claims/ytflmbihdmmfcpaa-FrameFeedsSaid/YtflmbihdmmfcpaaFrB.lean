/-
  What a framer's New, keep, hear, Reset, Waiting and Fed come to.
-/
import Derived.Test.YtflmbihdmmfcpaaFrA
import Derived.Test.YtflmbihdmmfcpaaSyncA
import Derived.Test.YtflmbihdmmfcpaaSyncL
import Derived.WalkKit
import Derived.Maps.OwnSet
namespace Go.Proofs.Ytflmbihdmmfcpaa
open Go.RowKit Go.Maps

set_option maxRecDepth 100000 in
set_option maxHeartbeats 1000000 in
theorem frnew_any (B : Nat) (w : World) (hB : B ≤ w.heap.size) : Calls Try.prog 11 #[] w fun e w' => e = .returned (.pointer (some ⟨w.heap.size, 0, none⟩)) ∧ FramerAt w' B w.heap.size (.slice none 0 0) [] 0 ∧ Below w.heap.size w w' ∧ w.heap.size < w'.heap.size := by
  go_enter Try.func11, Try.ntmps11
  go_wp2
  go_ret
  exact ⟨rfl, ⟨hB, heap_alloc_new w _, World.ownsRow_nil _ _ _ _⟩, (Below.refl _ w).alloc (Nat.le_refl _) _, by simp⟩

section
variable (B N : Nat) (v : Value) (l : List UInt8) (h : Bool) (k : Int) (w : World)
/-- A framer's block, written anew. -/
theorem framer_put {w w' : World} {B N : Nat} {v v' : Value} {l l' : List UInt8} {h h' : Bool} {k k' : Int} (f : FramerOf w B N v l h k) (hN : w'.heap[N]? = some (.cells #[v', .bool (longF l'), .bool h', .int .i64 k'] 60 (0, 0)))
    (hr : w'.ownsRow B 5 1 v' (keptF l').length (Lib.byteCells (keptF l'))) : FramerOf w' B N v' l' h' k' := ⟨f.1, hN, hr⟩
theorem set_block {w : World} {N j : Nat} {cs : Array Value} {t : TypeId} {x : Value} (hN : w.heap[N]? = some (.cells cs t (0, 0))) : (w.setCell ⟨N, j, none⟩ x).heap[N]? = some (.cells (cs.setIfInBounds j x) t (0, 0)) := by
  have hlt : N < w.heap.size := (Array.getElem?_eq_some_iff.1 hN).1
  have hN' : w.heap[N] = .cells cs t (0, 0) := (Array.getElem?_eq_some_iff.1 hN).2
  simp only [World.setCell, Array.getElem?_modify, if_pos]
  rw [hN]
  rfl

set_option maxRecDepth 100000 in
set_option maxHeartbeats 2000000 in
theorem frkeep_any (c : UInt8) (hB : B ≤ w.heap.size) (f : FramerOf w B N v l h k) :
    Calls Try.prog 33 #[.pointer (some ⟨N, 0, none⟩), .int .u8 (c.toNat : Int)] w fun e w' => ∃ v', e = .returned (.tuple #[]) ∧ FramerOf w' B N v' (l ++ [c]) h k ∧ Turned (mineF N v) w w' ∧ FreshF w v v' := by
  obtain ⟨i0, hi, hz0, hz1, hz2⟩ := info_parts infoB4
  obtain ⟨c0, c1, c2, c3, fz⟩ := f.cells
  have f0 := fz 0
  have f1 := fz 1
  have hlt := f.lt
  have hkl := kept_len l
  obtain ⟨ao, cap, hv⟩ := row_slice f.2.2
  subst hv
  by_cases hfull : longF l = true ∨ (keptF l).length = 998
  · obtain ⟨e1, e2⟩ := kept_full hfull c
    have hN2 : ((w.setCell ⟨N, 0, none⟩ (.slice none 0 0)).setCell ⟨N, 1, none⟩ (.bool true)).heap[N]? = some (.cells #[.slice none 0 0, .bool (longF (l ++ [c])), .bool h, .int .i64 k] 60 (0, 0)) := by
      have := set_block (j := 1) (x := .bool true) (set_block (j := 0) (x := .slice none 0 0) f.2.1)
      rw [e2]
      exact this
    have hpost : FramerOf ((w.setCell ⟨N, 0, none⟩ (.slice none 0 0)).setCell ⟨N, 1, none⟩ (.bool true)) B N (.slice none 0 0) (l ++ [c]) h k := framer_put f hN2 (by rw [e1]; exact World.ownsRow_nil _ _ _ _)
    have hturn : Turned (mineF N (.slice ao (keptF l).length cap)) w ((w.setCell ⟨N, 0, none⟩ (.slice none 0 0)).setCell ⟨N, 1, none⟩ (.bool true)) :=
      (Turned.set (j := 0) (N := N) (v := .slice none 0 0) (.inl rfl)).trans (Turned.set (S := fun b => b = N) rfl) (fun b e => .inl (.inl e))
    have Hpost := Lib.hid hpost
    have Hturn := Lib.hid hturn
    clear hN2 hpost hturn e1 e2
    rcases hfull with hf | hf
    · rw [hf] at c1
      clear f hf
      go_enter Try.func33, Try.ntmps33
      go_wp2
      (first | go_end0 | (simp only [Exit.inBlock, Exit.then]; refine bodyPost_ret (results_none rfl _ _ _) rfl ?_) | refine bodyPost_ret (results_none rfl _ _ _) rfl ?_)
      exact ⟨_, rfl, Hpost.out, Hturn.out, FreshF.none _ _⟩
    · have hlf : longF l = false := by
        cases hl : longF l with
        | false => rfl
        | true => rw [kept_long hl] at hf; cases hf
      rw [hlf] at c1
      have hbeq : (((keptF l).length : Int) == 998) = true := by rw [hf]; rfl
      clear f hf hlf
      go_enter Try.func33, Try.ntmps33
      go_wp2
      (first | go_end0 | (simp only [Exit.inBlock, Exit.then]; refine bodyPost_ret (results_none rfl _ _ _) rfl ?_) | refine bodyPost_ret (results_none rfl _ _ _) rfl ?_)
      exact ⟨_, rfl, Hpost.out, Hturn.out, FreshF.none _ _⟩
  · rw [not_or] at hfull
    have hlf : longF l = false := by simpa using hfull.1
    obtain ⟨e1, e2⟩ := kept_more hlf (by rw [kept_short hlf] at hfull; exact hfull.2) c
    have hbeq : (((keptF l).length : Int) == 998) = false := by rw [beq_eq_false_iff_ne]; omega
    have hne := f.ne
    have hN1 := f.2.1
    have hown := f.2.2.alloc (.cells #[.int .u8 (c.toNat : Int)] 5)
    have hbyte : Lib.byteCells (keptF l) ++ [.int .u8 (c.toNat : Int)] = Lib.byteCells (keptF l ++ [c]) := by rw [Lib.byteCells_append]; rfl
    rw [hlf] at c1
    obtain ⟨n, hn⟩ : ∃ n, (keptF l).length = n := ⟨_, rfl⟩
    rw [hn] at hown hbeq hkl c0 hne hN1 ⊢
    have H := Lib.hid (And.intro e1 (And.intro e2 (And.intro hlf (And.intro hbyte (And.intro f.1 hn)))))
    have HN := Lib.hid hN1
    clear e1 e2 hlf hfull f hbyte hn hN1
    go_enter Try.func33, Try.ntmps33
    go_wp2_with (at_builtin; refine wpList_append_own_at _ rfl _ _ 52 rfl B 5 i0 (.int .u8 0) 1 1 Try.underlying52 hi hz0 hz1 hz2 rfl (by decide) _ n _ rfl hown ⟨w.heap.size, 0, none⟩ 1 1 [.int .u8 (c.toNat : Int)] rfl rfl ?n1 ?n2 ?n3 ?n4 ?n5 ?_)
    case n1 =>
      intro j u hj
      rw [Addr.add_lit]
      match j, hj with
      | 0, hj =>
        simp at hj
        subst hj
        go_simp
      | j + 1, hj => simp at hj
    case n2 =>
      intro u hu
      simp at hu
      subst hu
      rfl
    case n3 => unfold maxLen; omega
    case n4 => omega
    case n5 => simp; omega
    intro v' w3 hown3 hgrow3 _ hat
    have hN3 : w3.heap[N]? = some (.cells #[.slice ao n cap, .bool (longF l), .bool h, .int .i64 k] 60 (0, 0)) := by
      rw [hgrow3.block N (by simp; omega) (fun e => hne e.symm), heap_alloc_old w _ hlt]
      exact HN.out
    have d0 : w3.cell? ⟨N, 0, none⟩ = some (.slice ao n cap) := by rw [Lib.cell_of_heap hN3]; rfl
    have g0 : w3.frozen? ⟨N, 0, none⟩ = false := Lib.frozen_of_heap hN3 0
    have hne3 : v'.ownBlock ≠ some N := fun e => by
      obtain ⟨_, cur, hc⟩ := row_block hown3 e
      rw [hN3] at hc
      simp at hc
    have hat2 : FreshF w (.slice ao n cap) v' := fun b e => by
      rcases hat with h | h
      · exact .inl (by rw [← h]; exact e)
      · rw [h] at e
        simp at e
        exact .inr (by omega)
    have ht3 : Turned (mineF N (.slice ao n cap)) w w3 := (Turned.of_below ((Below.refl _ w).alloc (Nat.le_refl _) (.cells #[.int .u8 (c.toNat : Int)] 5)) (Nat.le_refl _)).trans (Turned.of_grown (S := mineF N (.slice ao n cap)) hgrow3 (fun b e => .inl (.inr e))) (fun b e => .inl e)
    obtain ⟨e1, e2, e3, hbyte, hBN, hn⟩ := H.out
    have hpost : FramerOf (w3.setCell ⟨N, 0, none⟩ v') B N v' (l ++ [c]) h k := by
      refine ⟨hBN, ?_, ?_⟩
      · rw [set_block hN3, e2, ← e3]
        rfl
      · have ht : Turned (fun b => b = N) w3 (w3.setCell ⟨N, 0, none⟩ v') := Turned.set rfl
        refine ht.row ?_ (fun b e eb => hne3 (by rw [e, eb]))
        rw [e1, ← hbyte, List.length_append, hn]
        exact hown3
    have hturn : Turned (mineF N (.slice ao n cap)) w (w3.setCell ⟨N, 0, none⟩ v') := ht3.trans (Turned.set (S := fun b => b = N) rfl) (fun b e => .inl (.inl e))
    have Hpost := Lib.hid hpost
    have Hturn := Lib.hid hturn
    have Hat := Lib.hid hat2
    obtain ⟨ao2, cap2, rfl⟩ := row_slice hown3
    clear hpost hturn hat2 hat e1 e2 e3 hbyte hBN hn ht3 hne3 hN3 hgrow3 hown3 hown
    go_wp2
    go_end0
    exact ⟨_, rfl, Hpost.out, Hturn.out, Hat.out⟩
end

/-- A framer with another 13 at its end, or none. -/
theorem framer_half {w : World} {B N : Nat} {v : Value} {l : List UInt8} {h : Bool} {k : Int} (f : FramerOf w B N v l h k) (x : Bool) : FramerOf (w.setCell ⟨N, 2, none⟩ (.bool x)) B N v l x k ∧ Turned (mineF N v) w (w.setCell ⟨N, 2, none⟩ (.bool x)) := by
  refine ⟨framer_put f (by rw [set_block f.2.1]; rfl) ?_, Turned.set (.inl rfl)⟩
  refine (Turned.set (S := fun b => b = N) (j := 2) (N := N) (v := .bool x) rfl).row f.2.2 (fun b e eb => f.ne (by rw [e, eb]))

set_option maxRecDepth 100000 in
set_option maxHeartbeats 2000000 in
theorem frhear_any (B N : Nat) (v : Value) (r : List UInt8) (k : Int) (w : World) (c : UInt8) (hB : B ≤ w.heap.size) (f : FramerAt w B N v r k) :
    Calls Try.prog 24 #[.pointer (some ⟨N, 0, none⟩), .int .u8 (c.toNat : Int)] w fun e w' => ∃ v', e = .returned (.tuple #[]) ∧ FramerAt w' B N v' (r ++ [c]) k ∧ Turned (mineF N v) w w' ∧ FreshF w v v' := by
  have f : FramerOf w B N v (bodyF r) (halfF r) k := f
  obtain ⟨c0, c1, c2, c3, fz⟩ := f.cells
  have fz2 := fz 2
  clear c0 c1 c3
  -- behind the byte: the body, and whether a 13 waits
  have step : ∀ (W : World) (v1 : Value) (x : Bool), Turned (mineF N v) w W → FreshF w v v1 → FramerOf W B N v1 r (halfF r) k → Hid (∃ W', W' = W.setCell ⟨N, 2, none⟩ (.bool x) ∧ FramerOf W' B N v1 r x k ∧ Turned (mineF N v) w W' ∧ W'.cell? ⟨N, 2, none⟩ = some (.bool x) ∧ B ≤ W'.heap.size) := by
    intro W v1 x ht hf hF
    obtain ⟨g1, g2⟩ := framer_half hF x
    exact Lib.hid ⟨_, rfl, g1, ht.trans g2 (mine_fresh hf), g1.cells.2.2.1, by have := g1.lt; have := g1.1; omega⟩
  cases hh : halfF r with
  | false =>
    have hbody := body_no hh
    rw [hbody] at f
    have st := fun x => step w v x (Turned.refl _ _) (FreshF.refl _ _) (by rw [hh] at f ⊢; exact f)
    rw [hh] at c2
    by_cases hc : c = 13
    · subst hc
      obtain ⟨W', e, g1, g2, _⟩ := (st true).out
      have hfin : FramerAt W' B N v (r ++ [13]) k := by
        unfold FramerAt
        rw [body_snoc_13, half_snoc]
        exact g1
      have Hfin := Lib.hid (And.intro hfin (And.intro g2 e))
      clear st step f hbody g1 g2 hfin hh e
      go_enter Try.func24, Try.ntmps24
      go_wp2
      (first | go_end0 | (simp only [Exit.inBlock, Exit.then]; refine bodyPost_ret (results_none rfl _ _ _) rfl ?_) | refine bodyPost_ret (results_none rfl _ _ _) rfl ?_)
      obtain ⟨q1, q2, q3⟩ := Hfin.out
      rw [← q3]
      exact ⟨_, rfl, q1, q2, FreshF.refl _ _⟩
    · obtain ⟨W', e, g1, g2, g3, g4⟩ := (st false).out
      have hbeq : ((c.toNat : Int) == 13) = false := by
        rw [beq_eq_false_iff_ne]
        intro e
        exact hc (UInt8.toNat_inj.1 (by have : (13 : UInt8).toNat = 13 := rfl; omega))
      have hk := frkeep_any B N v r false k W' c g4 g1
      have Hc := Lib.hid hc
      have H := Lib.hid (And.intro g2 (And.intro g1 hh))
      subst e
      clear st step f hbody g1 g2 hc hh g4
      go_enter Try.func24, Try.ntmps24
      go_wp2_with fail
      refine hk.mono ?_
      rintro e w2 ⟨v', rfl, hF, ht, hfr⟩
      go_wp2
      (first | go_end0 | (simp only [Exit.inBlock, Exit.then]; refine bodyPost_ret (results_none rfl _ _ _) rfl ?_) | refine bodyPost_ret (results_none rfl _ _ _) rfl ?_)
      obtain ⟨g2, g1, hh⟩ := H.out
      refine ⟨v', rfl, ?_, g2.trans ht (fun b e => .inl e), fun b e => (hfr b e).imp id fun h => by have := g2.size; omega⟩
      unfold FramerAt
      rw [body_snoc Hc.out, half_snoc, decide_eq_false Hc.out]
      exact hF
  | true =>
    rw [hh] at c2 f
    have hbody := body_yes hh
    have hk0 := frkeep_any B N v (bodyF r) true k w 13 hB f
    rw [← hbody] at hk0
    have Hh := Lib.hid hh
    have Hst := Lib.hid step
    clear hh hbody f step
    by_cases hc : c = 13
    · subst hc
      go_enter Try.func24, Try.ntmps24
      go_wp2_with fail
      refine hk0.mono ?_
      rintro e w1 ⟨v1, rfl, hF1, ht1, hf1⟩
      obtain ⟨W', e, g1, g2, g3, g4⟩ := (Hst.out w1 v1 true ht1 hf1 (by rw [Hh.out]; exact hF1)).out
      have d2 := hF1.cells.2.2.1
      have dz := hF1.cells.2.2.2.2 2
      have hlt1 := hF1.lt
      have hfin : FramerAt W' B N v1 (r ++ [13]) k := by
        unfold FramerAt
        rw [body_snoc_13, half_snoc]
        exact g1
      subst e
      have Hfin := Lib.hid (And.intro hfin (And.intro g2 hf1))
      clear hk0 Hst hF1 ht1 hf1 g1 g2 g4 hfin
      go_wp2
      (first | go_end0 | (simp only [Exit.inBlock, Exit.then]; refine bodyPost_ret (results_none rfl _ _ _) rfl ?_) | refine bodyPost_ret (results_none rfl _ _ _) rfl ?_)
      obtain ⟨q1, q2, q3⟩ := Hfin.out
      exact ⟨_, rfl, q1, q2, q3⟩
    · have hbeq : ((c.toNat : Int) == 13) = false := by
        rw [beq_eq_false_iff_ne]
        intro e
        exact hc (UInt8.toNat_inj.1 (by have : (13 : UInt8).toNat = 13 := rfl; omega))
      have Hc := Lib.hid hc
      clear hc
      go_enter Try.func24, Try.ntmps24
      go_wp2_with fail
      refine hk0.mono ?_
      rintro e w1 ⟨v1, rfl, hF1, ht1, hf1⟩
      obtain ⟨W', e, g1, g2, g3, g4⟩ := (Hst.out w1 v1 false ht1 hf1 (by rw [Hh.out]; exact hF1)).out
      have d2 := hF1.cells.2.2.1
      have dz := hF1.cells.2.2.2.2 2
      have hlt1 := hF1.lt
      have hk := frkeep_any B N v1 r false k W' c g4 g1
      subst e
      have H := Lib.hid (And.intro g2 (And.intro hf1 ht1))
      clear hk0 Hst hF1 ht1 hf1 g1 g2 g4
      go_wp2_with fail
      refine hk.mono ?_
      rintro e w2 ⟨v', rfl, hF, ht, hfr⟩
      go_wp2
      (first | go_end0 | (simp only [Exit.inBlock, Exit.then]; refine bodyPost_ret (results_none rfl _ _ _) rfl ?_) | refine bodyPost_ret (results_none rfl _ _ _) rfl ?_)
      obtain ⟨g2, hf1, ht1⟩ := H.out
      refine ⟨v', rfl, ?_, g2.trans ht (mine_fresh hf1), hf1.trans hfr g2.size⟩
      unfold FramerAt
      rw [body_snoc Hc.out, half_snoc, decide_eq_false Hc.out]
      exact hF

set_option maxRecDepth 100000 in
set_option maxHeartbeats 1000000 in
theorem frreset_any (B N : Nat) (v : Value) (r : List UInt8) (k : Int) (w : World) (f : FramerAt w B N v r k) :
    Calls Try.prog 12 #[.pointer (some ⟨N, 0, none⟩)] w fun e w' => e = .returned (.tuple #[]) ∧ FramerAt w' B N (.slice none 0 0) [] k ∧ Turned (mineF N v) w w' := by
  have f : FramerOf w B N v (bodyF r) (halfF r) k := f
  obtain ⟨c0, c1, c2, c3, fz⟩ := f.cells
  have f0 := fz 0
  have f1 := fz 1
  have f2 := fz 2
  have hfin : FramerAt (((w.setCell ⟨N, 0, none⟩ (.slice none 0 0)).setCell ⟨N, 1, none⟩ (.bool false)).setCell ⟨N, 2, none⟩ (.bool false)) B N (.slice none 0 0) [] k := by
    refine ⟨f.1, ?_, World.ownsRow_nil _ _ _ _⟩
    have := set_block (j := 2) (x := .bool false) (set_block (j := 1) (x := .bool false) (set_block (j := 0) (x := .slice none 0 0) f.2.1))
    exact this
  have ht : Turned (mineF N v) w (((w.setCell ⟨N, 0, none⟩ (.slice none 0 0)).setCell ⟨N, 1, none⟩ (.bool false)).setCell ⟨N, 2, none⟩ (.bool false)) :=
    ((Turned.set (j := 0) (N := N) (v := .slice none 0 0) (.inl rfl)).trans (Turned.set (S := mineF N v) (j := 1) (N := N) (v := .bool false) (.inl rfl)) (fun b e => .inl e)).trans (Turned.set (S := mineF N v) (j := 2) (N := N) (v := .bool false) (.inl rfl)) (fun b e => .inl e)
  have H := Lib.hid (And.intro hfin ht)
  clear hfin ht f fz
  go_enter Try.func12, Try.ntmps12
  go_wp2
  (first | go_end0 | (simp only [Exit.inBlock, Exit.then]; refine bodyPost_ret (results_none rfl _ _ _) rfl ?_) | refine bodyPost_ret (results_none rfl _ _ _) rfl ?_)
  exact ⟨rfl, H.out.1, H.out.2⟩

set_option maxRecDepth 100000 in
set_option maxHeartbeats 1000000 in
theorem frwait_any (B N : Nat) (v : Value) (r : List UInt8) (k : Int) (w : World) (f : FramerAt w B N v r k) :
    Calls Try.prog 15 #[.pointer (some ⟨N, 0, none⟩)] w fun e w' => e = .returned (.int .i64 (waitF r : Int)) ∧ w' = w := by
  have f : FramerOf w B N v (bodyF r) (halfF r) k := f
  obtain ⟨c0, c1, c2, c3, fz⟩ := f.cells
  have hkl := kept_len (bodyF r)
  obtain ⟨ao, cap, rfl⟩ := row_slice f.2.2
  obtain ⟨n, hn⟩ : ∃ n, (keptF (bodyF r)).length = n := ⟨_, rfl⟩
  cases hl : longF (bodyF r) with
  | true =>
    rw [wait_long hl]
    rw [hl] at c1
    clear f hl hn hkl
    go_enter Try.func15, Try.ntmps15
    go_wp2
    go_ret
    exact ⟨rfl, rfl⟩
  | false =>
    cases hh : halfF r with
    | true =>
      rw [wait_half hl hh, hn]
      rw [hl] at c1
      rw [hh] at c2
      rw [hn] at c0 hkl
      clear f hl hn hh
      go_enter Try.func15, Try.ntmps15
      go_wp2
      go_ret
      exact ⟨rfl, rfl⟩
    | false =>
      rw [wait_plain hl hh, hn]
      rw [hl] at c1
      rw [hh] at c2
      rw [hn] at c0 hkl
      clear f hl hn hh
      go_enter Try.func15, Try.ntmps15
      go_wp2
      go_ret
      exact ⟨rfl, rfl⟩

set_option maxRecDepth 100000 in
set_option maxHeartbeats 1000000 in
theorem frfed_any (B N : Nat) (v : Value) (r : List UInt8) (k : Int) (w : World) (f : FramerAt w B N v r k) :
    Calls Try.prog 16 #[.pointer (some ⟨N, 0, none⟩)] w fun e w' => e = .returned (.int .i64 k) ∧ w' = w := by
  have f : FramerOf w B N v (bodyF r) (halfF r) k := f
  obtain ⟨c0, c1, c2, c3, fz⟩ := f.cells
  have hl := load64_any ⟨N, 3, none⟩ k w c3
  clear c0 c1 c2
  go_enter Try.func16, Try.ntmps16
  go_wp2_with (go_at_call 25; refine hl.mono ?_; rintro e w' ⟨rfl, rfl⟩)
  go_ret
  exact ⟨rfl, rfl⟩
end Go.Proofs.Ytflmbihdmmfcpaa
