/-
  The tries of a message, told one by one; the plan of them.
-/
import Derived.Test.YtnggjoleiapboaaRtB
import Derived.Test.YtnggjoleiapboaaTurnQ
import Derived.RangeFuncBox
import Derived.LoopIn
import Derived.Deep.LoopGhost
namespace Go.Proofs.Ytnggjoleiapboaa
open Go.RowKit Go.Maps

/-- The times of the tries from a turn on, at most so many. -/
def planF : Nat → Int → Int → Int → List Int
  | 0, _, _, _ => []
  | n + 1, b, t, d => d :: (if (failT b t d d).2.1 = true ∨ (failT b t d d).2.2 ≠ 0 then [] else planF n (failT b t d d).1.1 (failT b t d d).1.2.1 (failT b t d d).1.2.2)
def planT (now : Int) : List Int := if timeT now = true then planF 5 now 0 now else []
theorem plan_len : ∀ n b t d, (planF n b t d).length ≤ n
  | 0, _, _, _ => Nat.le_refl _
  | n + 1, b, t, d => by
    unfold planF
    rw [List.length_cons]
    split
    · simp
    · have := plan_len n (failT b t d d).1.1 (failT b t d d).1.2.1 (failT b t d d).1.2.2
      omega
theorem plan_five (now : Int) : (planT now).length ≤ 5 := by
  unfold planT
  split
  · exact plan_len _ _ _ _
  · simp

/-- Numbers, as a row of somebody's own. -/
theorem infoIntT : (Try.prog.info? 3).map (fun i => (i.zero, i.size, i.bytes)) = some (some (.int .i64 0), 1, 8) := by kernel_rfl
theorem info_partsT {z : Value} {s b : Nat} {t : TypeId} (h : (Try.prog.info? t).map (fun i => (i.zero, i.size, i.bytes)) = some (some z, s, b)) : ∃ i, Try.prog.info? t = some i ∧ i.zero = some z ∧ i.size = s ∧ i.bytes = b := by
  cases hi : Try.prog.info? t with
  | none => rw [hi] at h; cases h
  | some i =>
    rw [hi] at h
    simp only [Option.map_some, Option.some.injEq, Prod.mk.injEq] at h
    exact ⟨i, rfl, h.1, h.2.1, h.2.2⟩
def timeCells (l : List Int) : List Value := l.map fun n => Value.int .i64 n
abbrev TimesOwn (w : World) (B : Nat) (v : Value) (l : List Int) : Prop := w.ownsRow B 3 1 v l.length (timeCells l)
theorem append_time {w : World} {ops : Array Oper} {rest : List Oper} {o : Oper} {a : Act} {Q : Exit → Act → World → Prop} (hgd : o.guard = none) (s x : Operand)
    (ho : o.op = .call { callee := .builtin .append, args := #[s, x], argTypes := #[33, 33] }) (B : Nat) (v : Value) (l : List Int) (p : Int) (hs : a.eval s = v) (hown : TimesOwn w B v l) (hB : B ≤ w.heap.size) (hl : l.length ≤ 10000000)
    (b c : Nat) (hx : a.eval x = .slice (some ⟨b, 0, none⟩) 1 c) (h0 : w.cell? ⟨b, 0, none⟩ = some (.int .i64 p))
    (h : ∀ v' w', TimesOwn w' B v' (l ++ [p]) → w.grownBy w' v.ownBlock → wpList Try.prog ops Q rest (a.put o.dst v') w') : wpList Try.prog ops Q (o :: rest) a w := by
  obtain ⟨i0, hi, hz0, hz1, hz2⟩ := info_partsT infoIntT
  refine wpList_append_own w hgd s x 33 ho B 3 i0 (.int .i64 0) 1 8 Try.underlying33 hi hz0 hz1 hz2 rfl (by decide) v l.length _ hs hown ⟨b, 0, none⟩ 1 c [.int .i64 p] hx rfl (fun j u hj => ?_) (fun u hu => ?_) (by unfold maxLen; omega) (by omega) hB (fun v' w' q1 q2 _ => ?_)
  · rw [Addr.add_lit, Nat.zero_add]
    match j, hj with
    | 0, hj => cases hj; exact h0
    | j + 1, hj => cases hj
  · rw [List.mem_singleton.1 hu]
    rfl
  · refine h v' w' ?_ q2
    unfold TimesOwn timeCells
    rw [List.length_append, List.map_append]
    exact q1
/-- What a closure that tells tries knows: has it expired, an error, the turn. -/
structure TrySt (w : World) (T : Nat) (b t d e : Int) (over : Bool) : Prop where
  turn : TurnAt w T b t d
  err : Boxed w (T + 1) 26 (.int .i64 e)
  over : Boxed w (T + 2) 4 (.bool over)
theorem boxed_belowT {B : Nat} {t : TypeId} {v : Value} {w w' : World} (h : Boxed w B t v) (hb : Below w.heap.size w w') : Boxed w' B t v := (hb.block B h.lt).trans h
theorem TrySt.below {w w' : World} {T : Nat} {b t d e : Int} {over : Bool} (h : TrySt w T b t d e over) (hb : Below w.heap.size w w') : TrySt w' T b t d e over := ⟨h.turn.below hb, boxed_belowT h.err hb, boxed_belowT h.over hb⟩
def tryV (T : Nat) : Value := .func (.func 19) #[] #[.pointer (some ⟨T + 2, 0, none⟩), .pointer (some ⟨T + 1, 0, none⟩), .pointer (some ⟨T, 0, none⟩)]

theorem try_new (w : World) (b t d e : Int) (over : Bool) : TrySt (((w.alloc (.cells #[.int .i64 b, .int .i64 t, .int .i64 d] 23)).alloc (.cells #[.int .i64 e] 26)).alloc (.cells #[.bool over] 4)) w.heap.size b t d e over ∧
    Below w.heap.size w (((w.alloc (.cells #[.int .i64 b, .int .i64 t, .int .i64 d] 23)).alloc (.cells #[.int .i64 e] 26)).alloc (.cells #[.bool over] 4)) := by
  refine ⟨⟨?_, ?_, ?_⟩, (((Below.refl _ _).alloc (Nat.le_refl _) _).alloc (by simp) _).alloc (by simp; omega) _⟩
  · exact ((turn_new w b t d).below ((Below.refl _ _).alloc (Nat.le_refl _) _)).below ((Below.refl _ _).alloc (Nat.le_refl _) _)
  · have h := Boxed.new (w.alloc (.cells #[.int .i64 b, .int .i64 t, .int .i64 d] 23)) 26 (.int .i64 e)
    rw [World.size_alloc] at h
    exact boxed_belowT h ((Below.refl _ _).alloc (Nat.le_refl _) _)
  · have h := Boxed.new ((w.alloc (.cells #[.int .i64 b, .int .i64 t, .int .i64 d] 23)).alloc (.cells #[.int .i64 e] 26)) 4 (.bool over)
    rw [World.size_alloc, World.size_alloc] at h
    exact h
set_option maxRecDepth 100000 in
set_option maxHeartbeats 2000000 in
theorem rtries_any (now : Int) (w : World) : Calls Try.prog 18 #[.int .i64 now] w fun e w' => ∃ T, e = .returned (tryV T) ∧ w.heap.size ≤ T ∧ Below w.heap.size w w' ∧
    (if timeT now = true then TrySt w' T now 0 now 0 false else TrySt w' T 0 0 0 1 false) := by
  have hn := rnew_any now w
  have hmf : ∀ (fn : Fn) (first cap : Array Value) (w : World), (Instr.makeFunc fn first cap).run Try.prog w = .ok (.func fn first cap) w := fun _ _ _ _ => rfl
  cases hq : timeT now with
  | false =>
    rw [hq] at hn
    replace hn : Calls Try.prog 10 #[.int .i64 now] w fun e w' => e = .returned (.tuple #[turnV 0 0 0, .int .i64 1]) ∧ Below w.heap.size w w' := hn
    show Calls _ _ _ _ fun e w' => ∃ T, e = .returned (tryV T) ∧ w.heap.size ≤ T ∧ Below w.heap.size w w' ∧ TrySt w' T 0 0 0 1 false
    clear hq
    go_enter Try.func18, Try.ntmps18
    go_wp2_with fail
    refine hn.mono ?_
    rintro e w1 ⟨rfl, hb⟩
    have Fin := Lib.hid (And.intro hb (try_new w1 0 0 0 1 false))
    clear hb hn
    go_wp2
    go_ret
    exact ⟨_, rfl, Fin.out.1.size, Fin.out.1.trans (Fin.out.2.2.mono Fin.out.1.size), Fin.out.2.1⟩
  | true =>
    rw [hq] at hn
    replace hn : Calls Try.prog 10 #[.int .i64 now] w fun e w' => e = .returned (.tuple #[turnV now 0 now, .int .i64 0]) ∧ Below w.heap.size w w' := hn
    show Calls _ _ _ _ fun e w' => ∃ T, e = .returned (tryV T) ∧ w.heap.size ≤ T ∧ Below w.heap.size w w' ∧ TrySt w' T now 0 now 0 false
    clear hq
    go_enter Try.func18, Try.ntmps18
    go_wp2_with fail
    refine hn.mono ?_
    rintro e w1 ⟨rfl, hb⟩
    have Fin := Lib.hid (And.intro hb (try_new w1 now 0 now 0 false))
    clear hb hn
    go_wp2
    go_ret
    exact ⟨_, rfl, Fin.out.1.size, Fin.out.1.trans (Fin.out.2.2.mono Fin.out.1.size), Fin.out.2.1⟩

/-- The blocks of a closure that tells tries. -/
def TryB (T k : Nat) : Prop := k = T ∨ k = T + 1 ∨ k = T + 2
def stTry (w : World) (T : Nat) (b t d e : Int) (over : Bool) : World := ((putT3 w T b t d).setCell ⟨T + 2, 0, none⟩ (.bool over)).setCell ⟨T + 1, 0, none⟩ (.int .i64 e)
theorem TrySt.put {w : World} {T : Nat} {b t d e : Int} {over : Bool} (h : TrySt w T b t d e over) (b' t' d' e' : Int) (over' : Bool) : TrySt (stTry w T b' t' d' e' over') T b' t' d' e' over' := by
  have e1 := h.turn.put b' t' d'
  have e2 : Boxed (putT3 w T b' t' d') (T + 1) 26 (.int .i64 e) := (putT3_block (by omega) _ _ _).trans h.err
  have e3 : Boxed (putT3 w T b' t' d') (T + 2) 4 (.bool over) := (putT3_block (by omega) _ _ _).trans h.over
  unfold stTry
  generalize putT3 w T b' t' d' = w2 at e1 e2 e3 ⊢
  have s1 : ∀ k, k ≠ T + 2 → (w2.setCell ⟨T + 2, 0, none⟩ (.bool over')).heap[k]? = w2.heap[k]? := fun k hk => Below.heap_setCell w2 ⟨T + 2, 0, none⟩ (.bool over') k hk
  have e4 := e3.set (.bool over')
  have e5 : Boxed (w2.setCell ⟨T + 2, 0, none⟩ (.bool over')) (T + 1) 26 (.int .i64 e) := (s1 _ (by omega)).trans e2
  have e6 : TurnAt (w2.setCell ⟨T + 2, 0, none⟩ (.bool over')) T b' t' d' := (s1 _ (by omega)).trans e1
  generalize w2.setCell ⟨T + 2, 0, none⟩ (.bool over') = w3 at e4 e5 e6 ⊢
  have s2 : ∀ k, k ≠ T + 1 → (w3.setCell ⟨T + 1, 0, none⟩ (.int .i64 e')).heap[k]? = w3.heap[k]? := fun k hk => Below.heap_setCell w3 ⟨T + 1, 0, none⟩ (.int .i64 e') k hk
  exact ⟨(s2 _ (by omega)).trans e6, e5.set (.int .i64 e'), (s2 _ (by omega)).trans e4⟩
theorem turned_st {w w1 : World} {T : Nat} (h : Below w.heap.size w w1) (b t d e : Int) (over : Bool) : Turned (TryB T) w (stTry w1 T b t d e over) := by
  have h0 : Turned (TryB T) w w1 := .of_below h (Nat.le_refl _)
  unfold stTry putT3
  have h1 := h0.trans (Turned.set (S := TryB T) (N := T) (j := 0) (v := .int .i64 b) (.inl rfl)) (fun _ h => .inl h)
  have h2 := h1.trans (Turned.set (S := TryB T) (N := T) (j := 1) (v := .int .i64 t) (.inl rfl)) (fun _ h => .inl h)
  have h3 := h2.trans (Turned.set (S := TryB T) (N := T) (j := 2) (v := .int .i64 d) (.inl rfl)) (fun _ h => .inl h)
  have h4 := h3.trans (Turned.set (S := TryB T) (N := T + 2) (j := 0) (v := .bool over) (.inr (.inr rfl))) (fun _ h => .inl h)
  exact h4.trans (Turned.set (S := TryB T) (N := T + 1) (j := 0) (v := .int .i64 e) (.inr (.inl rfl))) (fun _ h => .inl h)
def nextV (b t d e : Int) (over : Bool) : Value := if over = true ∨ e ≠ 0 then .tuple #[.int .i64 0, .bool false] else .tuple #[.int .i64 d, .bool true]
theorem fail_v (b t d : Int) : failV (failT b t d d) = .tuple #[turnV (failT b t d d).1.1 (failT b t d d).1.2.1 (failT b t d d).1.2.2, .bool (failT b t d d).2.1, .int .i64 (failT b t d d).2.2] := rfl
set_option maxRecDepth 100000 in
set_option maxHeartbeats 2000000 in
theorem rnext_no (T : Nat) (b t d e : Int) (over : Bool) (w : World) (h : TrySt w T b t d e over) (ho : over = true ∨ e ≠ 0) :
    Calls Try.prog 19 #[.pointer (some ⟨T + 2, 0, none⟩), .pointer (some ⟨T + 1, 0, none⟩), .pointer (some ⟨T, 0, none⟩)] w fun r w' => r = .returned (.tuple #[.int .i64 0, .bool false]) ∧ w' = w := by
  have c0 := h.over.cell
  have c1 := h.err.cell
  cases over with
  | true =>
    clear h
    go_enter Try.func19, Try.ntmps19
    go_wp2
    go_ret2
    exact ⟨rfl, rfl⟩
  | false =>
    have he : e ≠ 0 := ho.resolve_left (by simp)
    clear h ho
    go_enter Try.func19, Try.ntmps19
    go_wp2
    go_ret2
    exact ⟨rfl, rfl⟩
set_option maxRecDepth 100000 in
set_option maxHeartbeats 2000000 in
theorem rnext_yes (T : Nat) (b t d : Int) (w : World) (h : TrySt w T b t d 0 false) :
    Calls Try.prog 19 #[.pointer (some ⟨T + 2, 0, none⟩), .pointer (some ⟨T + 1, 0, none⟩), .pointer (some ⟨T, 0, none⟩)] w fun r w' => r = .returned (.tuple #[.int .i64 d, .bool true]) ∧
      TrySt w' T (failT b t d d).1.1 (failT b t d d).1.2.1 (failT b t d d).1.2.2 (failT b t d d).2.2 (failT b t d d).2.1 ∧ Turned (TryB T) w w' := by
  have c0 := h.over.cell
  have c1 := h.err.cell
  obtain ⟨t0, t1, t2, _⟩ := h.turn.cells
  have hf := rfailed_any b t d d w
  rw [fail_v] at hf
  obtain ⟨b', hb'⟩ : ∃ x, (failT b t d d).1.1 = x := ⟨_, rfl⟩
  obtain ⟨t', ht'⟩ : ∃ x, (failT b t d d).1.2.1 = x := ⟨_, rfl⟩
  obtain ⟨d', hd'⟩ : ∃ x, (failT b t d d).1.2.2 = x := ⟨_, rfl⟩
  obtain ⟨o', ho'⟩ : ∃ x, (failT b t d d).2.1 = x := ⟨_, rfl⟩
  obtain ⟨e', he'⟩ : ∃ x, (failT b t d d).2.2 = x := ⟨_, rfl⟩
  rw [hb', ht', hd', ho', he'] at hf ⊢
  have H := Lib.hid h
  clear h hb' ht' hd' ho' he'
  go_enter Try.func19, Try.ntmps19
  go_wp2_with fail
  refine hf.mono ?_
  rintro r w1 ⟨rfl, hb⟩
  have h1 := H.out.below hb
  obtain ⟨u0, u1, u2, f0, f1, f2⟩ := h1.turn.cells
  have v0 := h1.over.cell
  have v1 := h1.err.cell
  have g0 := Lib.frozen_of_heap h1.over 0
  have g1 := Lib.frozen_of_heap h1.err 0
  have Fin := Lib.hid (And.intro (h1.put b' t' d' e' o') (turned_st (T := T) hb b' t' d' e' o'))
  clear h1 hb hf H
  go_wp2
  go_ret2
  exact ⟨rfl, Fin.out.1, Fin.out.2⟩
end Go.Proofs.Ytnggjoleiapboaa
