/-
  Texts of this proof, put together: SpQ, S16W, S16X.
-/
import Derived.Test.YtgpdplffljidbaaGreatDoorZ36
import Derived.Test.YtgpdplffljidbaaGreatDoorZ34
namespace Go.Proofs.YtgpdplffljidbaaGreatDoor
open Go.RowKit

theorem items_at : ∀ (l : List ItemS) (i : Nat) (h : i < l.length) (j : Nat), j < 7 → (itemsCells l)[i * 7 + j]? = (itemCells l[i])[j]?
  | a :: l, 0, _, j, hj => by
    show (itemCells a ++ itemsCells l)[0 * 7 + j]? = _
    rw [Nat.zero_mul, Nat.zero_add, List.getElem?_append_left (by simp [itemCells]; omega)]
    rfl
  | a :: l, i + 1, h, j, hj => by
    have ih := items_at l i (by simpa using h) j hj
    show (itemCells a ++ itemsCells l)[(i + 1) * 7 + j]? = _
    rw [List.getElem?_append_right (by simp [itemCells]; omega)]
    rw [show (i + 1) * 7 + j - (itemCells a).length = i * 7 + j by simp [itemCells]; omega, ih]
    rfl
def readyS (now : Int) (x : ItemS) : Bool := readyT x.b x.t x.d now
theorem find_yesS {l : List ItemS} {now : Int} {i : Nat} (hi : i < l.length) (hno : ∀ y ∈ l.take i, readyS now y = false) (hy : readyS now l[i] = true) : l.find? (readyS now) = some l[i] := by
  have e : l = l.take i ++ l[i] :: l.drop (i + 1) := by
    rw [← List.drop_eq_getElem_cons hi, List.take_append_drop]
  have h : (l.take i).find? (readyS now) = none := List.find?_eq_none.2 fun y hy => by rw [hno y hy]; exact Bool.false_ne_true
  conv =>
    lhs
    rw [e]
  rw [List.find?_append, h, List.find?_cons, hy]
  rfl
def firstV (o : Option ItemS) : Value := match o with
  | some x => .tuple #[itemV x, .bool true]
  | none => .tuple #[itemW 0 ⟨#[]⟩ ⟨#[]⟩ ⟨#[]⟩ 0 0 0, .bool false]
set_option maxRecDepth 100000 in
set_option maxHeartbeats 4000000 in
theorem sready_any (w : World) (N : Nat) (ps : List PairP) (l : List ItemS) (top : Nat) (lt : Option (List UInt8)) (now : Int) (hG : GetC w (.pointer (some ⟨N, 0, none⟩)) ps) (hK : KeysC w (.pointer (some ⟨N, 0, none⟩)) ps) (hq : QueueB ps l top lt) (ht : PowIs w) (hl : l.length ≤ 100000) :
    Calls Tryz.prog 21 #[.pointer (some ⟨N, 0, none⟩), .int .i64 now] w fun e w' => e = .returned (firstV (l.find? (readyS now))) ∧ Below w.heap.size w w' := by
  obtain ⟨w1, hw1⟩ : ∃ w1, w.alloc (.cells #[.int .i64 0, .string ⟨#[]⟩, .string ⟨#[]⟩, .string ⟨#[]⟩, .int .i64 0, .int .i64 0, .int .i64 0] 44) = w1 := ⟨_, rfl⟩
  have b1 : Below w.heap.size w w1 := by rw [← hw1]; exact (Below.refl _ _).alloc (Nat.le_refl _) _
  have o1 : ItAt w1 w.heap.size 0 ⟨#[]⟩ ⟨#[]⟩ ⟨#[]⟩ 0 0 0 := by rw [← hw1]; exact it_new w _ _ _ _ _ _ _
  have hls := slist_any w1 N ps l top lt (fun V hV => hG V (b1.trans (hV.mono b1.size))) (fun V hV => hK V (b1.trans (hV.mono b1.size))) hq (pow_below ht b1) hl
  obtain ⟨n, hn⟩ : ∃ n, l.length = n := ⟨_, rfl⟩
  rw [hn] at hl
  replace hls : Calls Tryz.prog 19 #[.pointer (some ⟨N, 0, none⟩)] w1 fun e w' => ∃ ao cap, e = .returned (.slice ao n cap) ∧ Hid (ItemsOwn w' w1.heap.size (.slice ao n cap) l) ∧ Below w1.heap.size w1 w' := hls.mono fun e w' ⟨v, h1, h2, h3⟩ => by
    have h4 := h2
    unfold ItemsOwn at h4
    rw [hn] at h4
    obtain ⟨ao, cap, rfl⟩ := row_slice h4
    exact ⟨ao, cap, h1, Lib.hid h2, h3⟩
  have K1 := Lib.hid (And.intro b1 o1)
  have HN := Lib.hid hn
  obtain ⟨R, hR⟩ : ∃ R, firstV (l.find? (readyS now)) = R := ⟨_, rfl⟩
  rw [hR]
  have HR := Lib.hid hR
  clear hG hK hq ht b1 o1 hn hR
  go_enter Tryz.func21, Tryz.ntmps21
  go_wp2_with fail
  refine hls.mono ?_
  rintro e w2 ⟨ao, cap, rfl, hrow, hb⟩
  have K2 := Lib.hid (And.intro (K1.out.1.trans (hb.mono K1.out.1.size)) (And.intro (K1.out.2.below hb) hrow.out))
  clear hls hrow hb
  go_wp2
  go_loopw [11] (fun iv wr => ∃ i : Nat, i ≤ n ∧ iv = .int .i64 i ∧ Hid ((∀ y ∈ l.take i, readyS now y = false) ∧ Below w2.heap.size w2 wr)) (fun iv _ => n - (intOf iv).toNat)
  case atStart => exact ⟨0, by omega, rfl, Lib.hid ⟨fun y hy => (by cases hy), Below.refl _ _⟩⟩
  case round =>
    obtain ⟨i, hi, rfl, hk⟩ := hrel
    by_cases hlt : i < n
    · have hil : i < l.length := by rw [HN.out]; exact hlt
      have hit := items_at l i hil
      have hrow := K2.out.2.2
      obtain ⟨g, hg, hcs⟩ : ∃ g, ao = some ⟨g, 0, none⟩ ∧ g < w2.heap.size ∧ ∀ j u, j < 7 → (itemCells l[i])[j]? = some u → wr.cell? ⟨g, i * 7 + j, none⟩ = some u := by
        have hrow2 := hrow
        rcases hrow2.2 with ⟨e, _⟩ | ⟨g, c2, cur, e, _, hgb, _⟩
        · injection e with _ e2 _
          omega
        · have e' := e
          injection e' with e1 _ _
          refine ⟨g, e1, (Array.getElem?_eq_some_iff.1 hgb).1, fun j u hj hu => ?_⟩
          have c1 := World.ownsRow.cells (g := g) hrow (by rw [e]; rfl) (i * 7 + j) u (by rw [hit j hj]; exact hu)
          rw [Addr.add_lit, Nat.zero_add] at c1
          exact (hk.out.2.cell (p := ⟨g, i * 7 + j, none⟩) (Array.getElem?_eq_some_iff.1 hgb).1).trans c1
      subst hg
      have htk := List.take_succ_eq_append_getElem hil
      have hyes := find_yesS (now := now) hil hk.out.1
      obtain ⟨x, hx⟩ : ∃ x, l[i] = x := ⟨_, rfl⟩
      rw [hx] at hcs htk hyes
      obtain ⟨F, hF⟩ : ∃ F, textQ x.fr = F := ⟨_, rfl⟩
      obtain ⟨O, hO⟩ : ∃ F, textQ x.to = F := ⟨_, rfl⟩
      obtain ⟨X, hX⟩ : ∃ F, textQ x.tx = F := ⟨_, rfl⟩
      unfold itemCells at hcs
      rw [hF, hO, hX] at hcs
      have z0 := hcs.2 0 _ (by omega) rfl
      have z1 := hcs.2 1 _ (by omega) rfl
      have z2 := hcs.2 2 _ (by omega) rfl
      have z3 := hcs.2 3 _ (by omega) rfl
      have z4 := hcs.2 4 _ (by omega) rfl
      have z5 := hcs.2 5 _ (by omega) rfl
      have z6 := hcs.2 6 _ (by omega) rfl
      rw [Nat.add_zero] at z0
      obtain ⟨V, hV⟩ : ∃ V, wr.alloc (.cells #[.int .i64 x.id, .string F, .string O, .string X, .int .i64 x.b, .int .i64 x.t, .int .i64 x.d] 44) = V := ⟨_, rfl⟩
      have bV : Below wr.heap.size wr V := by rw [← hV]; exact (Below.refl _ _).alloc (Nat.le_refl _) _
      have iV : ItAt V wr.heap.size x.id F O X x.b x.t x.d := by rw [← hV]; exact it_new wr _ _ _ _ _ _ _
      obtain ⟨v0, v1, v2, v3, v4, v5, v6, _⟩ := iV.cells
      have hrd := rready_any x.b x.t x.d now V
      have HX := Lib.hid (And.intro hyes (And.intro htk (And.intro hF (And.intro hO (And.intro hX (And.intro bV iV))))))
      have hb2 := Lib.hid (hk.out.2.trans (bV.mono hk.out.2.size))
      clear hit hrow hcs hyes htk hx hF hO hX bV iV hil
      by_cases hy : readyS now x = true
      · rw [show readyT x.b x.t x.d now = true from hy] at hrd
        have hv := HR.out
        rw [HX.out.1 hy] at hv
        unfold firstV itemV at hv
        simp only [HX.out.2.2.1, HX.out.2.2.2.1, HX.out.2.2.2.2.1] at hv
        have HV := Lib.hid hv
        clear hv hy hk
        go_wp2_with fail
        refine hrd.mono ?_
        rintro e w5 ⟨rfl, hb5⟩
        have oR := (K2.out.2.1.below hb2.out).below hb5
        have i5 := HX.out.2.2.2.2.2.2.below hb5
        clear v0 v1 v2 v3 v4 v5 v6 z0 z1 z2 z3 z4 z5 z6
        obtain ⟨v0, v1, v2, v3, v4, v5, v6, _⟩ := i5.cells
        obtain ⟨u0, u1, u2, u3, u4, u5, u6, f0, f1, f2, f3, f4, f5, f6⟩ := oR.cells
        have KP := Lib.hid oR
        have b25 := hb2.out.trans (hb5.mono hb2.out.size)
        have Fin := Lib.hid (below_putI (K2.out.1.trans (b25.mono K2.out.1.size)) (Nat.le_refl _) x.id F O X x.b x.t x.d)
        unfold putI at Fin
        clear hrd hb5 oR i5 b25
        go_wp2
        obtain ⟨g0, g1, g2, g3, g4, g5, g6, _⟩ := (KP.out.put x.id F O X x.b x.t x.d).cells
        unfold putI at g0 g1 g2 g3 g4 g5 g6
        refine bodyPost_ret (v := .tuple #[.agg #[.int .i64 x.id, .string F, .string O, .string X, .int .i64 x.b, .int .i64 x.t, .int .i64 x.d], .bool true]) (by simp [results, Tryz.f21, go_sem, g0, g1, g2, g3, g4, g5, g6]) rfl ?_
        exact ⟨by rw [← HV.out], Fin.out⟩
      · have hy0 : readyS now x = false := by simpa using hy
        rw [show readyT x.b x.t x.d now = false from hy0] at hrd
        go_wp2_with fail
        refine hrd.mono ?_
        rintro e w5 ⟨rfl, hb5⟩
        have K5 := Lib.hid (show (∀ y ∈ l.take (i + 1), readyS now y = false) ∧ Below w2.heap.size w2 w5 from ⟨fun y hym => by
          rw [HX.out.2.1] at hym
          rcases List.mem_append.1 hym with h | h
          · exact hk.out.1 y h
          · rw [List.mem_singleton.1 h]
            exact hy0, hb2.out.trans (hb5.mono hb2.out.size)⟩)
        clear hrd hb5 hk z0 z1 z2 z3 z4 z5 z6 v0 v1 v2 v3 v4 v5 v6 hy hy0
        go_wp2
        go_roundw
        case rel => exact ⟨i + 1, by omega, by go_num, K5⟩
        case measure => simp [intOf]; omega
    · obtain rfl : i = n := by omega
      have hno := hk.out.1
      rw [List.take_of_length_le (by rw [HN.out]; exact Nat.le_refl _)] at hno
      have hf : l.find? (readyS now) = none := List.find?_eq_none.2 fun y hy => by rw [hno y hy]; exact Bool.false_ne_true
      have hv := HR.out
      rw [hf] at hv
      have HV := Lib.hid hv
      have oR := K2.out.2.1.below hk.out.2
      obtain ⟨u0, u1, u2, u3, u4, u5, u6, f0, f1, f2, f3, f4, f5, f6⟩ := oR.cells
      have KP := Lib.hid oR
      have Fin := Lib.hid (below_putI (K2.out.1.trans (hk.out.2.mono K2.out.1.size)) (Nat.le_refl _) 0 ⟨#[]⟩ ⟨#[]⟩ ⟨#[]⟩ 0 0 0)
      unfold putI at Fin
      clear hk hno hf oR hv
      go_wp2
      obtain ⟨g0, g1, g2, g3, g4, g5, g6, _⟩ := (KP.out.put 0 ⟨#[]⟩ ⟨#[]⟩ ⟨#[]⟩ 0 0 0).cells
      unfold putI at g0 g1 g2 g3 g4 g5 g6
      refine bodyPost_ret (v := .tuple #[.agg #[.int .i64 0, .string ⟨#[]⟩, .string ⟨#[]⟩, .string ⟨#[]⟩, .int .i64 0, .int .i64 0, .int .i64 0], .bool false]) (by simp [results, Tryz.f21, go_sem, g0, g1, g2, g3, g4, g5, g6]) rfl ?_
      exact ⟨by rw [← HV.out]; rfl, Fin.out⟩
end Go.Proofs.YtgpdplffljidbaaGreatDoor
namespace Go.Proofs.YtgpdplffljidbaaGreatDoor

theorem next_at : ∀ (l : List ItemS) (k i : Nat) (h : i < l.length), ∃ h2, (nextS k l)[i]'h2 = { l[i] with id := ((k + i + 1 : Nat) : Int) }
  | x :: l, k, 0, _ => ⟨by unfold nextS; simp, rfl⟩
  | x :: l, k, i + 1, h => by
    obtain ⟨h2, e⟩ := next_at l (k + 1) i (by simpa using h)
    refine ⟨by unfold nextS; rw [List.length_cons, next_len]; simpa using h, ?_⟩
    show (nextS (k + 1) l)[i]'h2 = _
    rw [e, show k + 1 + i + 1 = k + (i + 1) + 1 by omega]
    rfl
theorem next_mem {l : List ItemS} {k : Nat} {y : ItemS} (h : y ∈ nextS k l) : ∃ (i : Nat) (hi : i < l.length), y = { l[i] with id := ((k + i + 1 : Nat) : Int) } := by
  obtain ⟨i, hi, rfl⟩ := List.getElem_of_mem h
  rw [next_len] at hi
  obtain ⟨h2, e⟩ := next_at l k i hi
  exact ⟨i, hi, e⟩
theorem find_behind_other : ∀ (cs : List Ch) (ps : List PairP) {k : KeyP}, (∀ c ∈ cs, c.key ≠ k) → findP (behindP ps cs) k = findP ps k
  | [], _, _, _ => rfl
  | c :: cs, ps, k, h => by
    have h1 := find_behind_other cs (doneP c (!c.gone) ps) (k := k) (fun c hc => h c (List.mem_cons_of_mem _ hc))
    have h2 := h c (List.mem_cons_self ..)
    show findP (behindP (doneP c (!c.gone) ps) cs) k = _
    rw [h1]
    exact find_done_other _ h2.symm _ _
theorem puts_keys : ∀ (l : List ItemS) (k : Nat), ∀ c ∈ putsS (nextS k l), ∃ n : Nat, c.key = keyS n
  | [], _, c, hc => by cases hc
  | x :: l, k, c, hc => by
    unfold nextS at hc
    rcases List.mem_cons.1 hc with rfl | hc
    · exact ⟨_, rfl⟩
    · exact puts_keys l (k + 1) c hc
theorem key_head (n : Nat) : (keyS n).head? = some 113 := rfl
theorem add_keys {l : List ItemS} {k : Nat} : ∀ c ∈ addS k l, c.key.head? = some 113 := by
  unfold addS
  by_cases e : l = []
  · rw [if_pos e]
    intro c hc
    cases hc
  · rw [if_neg e]
    intro c hc
    rcases List.mem_append.1 hc with hc | hc
    · obtain ⟨n, e⟩ := puts_keys l k c hc
      rw [e]
      exact key_head n
    · rw [List.mem_singleton.1 hc]
      rfl
theorem queue_other {k v : List UInt8} (h : k.head? ≠ some 113) : QueueP [(k, v)] [] 0 := by
  have hf : ∀ q : KeyP, q.head? = some 113 → findP [(k, v)] q = none := fun q hq => by
    rw [find_cons, if_neg (fun e : k = q => h (by rw [e]; exact hq))]
    rfl
  refine ⟨List.pairwise_singleton _ _, List.Pairwise.nil, fun x h => (by cases h), by decide, fun x h => (by cases h), fun n _ _ => hf _ (key_head n), fun p hp h2 => ?_, hf _ rfl⟩
  rw [List.mem_singleton.1 hp] at h2
  exfalso
  apply h
  cases k with
  | nil => cases h2
  | cons a t =>
    have h3 : (a :: t).take 2 = [113, 47] := h2
    rw [List.take_succ_cons] at h3
    injection h3 with h4 _
    rw [h4]
    rfl
theorem rise_unique : ∀ {l : List ItemS}, (l.Pairwise fun x y => x.id < y.id) → ∀ {x y : ItemS}, x ∈ l → y ∈ l → x.id = y.id → x = y
  | a :: l, h, x, y, hx, hy, e => by
    rw [List.pairwise_cons] at h
    rcases List.mem_cons.1 hx with ex | hx2
    · rcases List.mem_cons.1 hy with ey | hy2
      · rw [ex, ey]
      · have := h.1 y hy2
        rw [ex] at e
        omega
    · rcases List.mem_cons.1 hy with ey | hy2
      · have := h.1 x hx2
        rw [ey] at e
        omega
      · exact rise_unique h.2 hx2 hy2 e
theorem drop_len : ∀ {l : List ItemS}, (l.Pairwise fun x y => x.id < y.id) → ∀ {x : ItemS}, x ∈ l → (l.filter fun y => !(y.id == x.id)).length + 1 = l.length
  | a :: l, h, x, hx => by
    rw [List.pairwise_cons] at h
    by_cases e : a.id = x.id
    · have hax : a = x := by
        rcases List.mem_cons.1 hx with ex | hx2
        · exact ex.symm
        · have := h.1 x hx2
          omega
      subst hax
      rw [List.filter_cons, if_neg (by simp), List.length_cons, List.filter_eq_self.2 fun y hy => by
        have := h.1 y hy
        simp only [Bool.not_eq_true', beq_eq_false_iff_ne]
        omega]
    · have hx2 : x ∈ l := (List.mem_cons.1 hx).elim (fun h => absurd (by rw [h]) e) id
      have ih := drop_len h.2 hx2
      rw [List.filter_cons, if_pos (by simpa using e), List.length_cons, List.length_cons, ih]
theorem drop_gone {l : List ItemS} {n : Int} : ∀ y ∈ (l.filter fun y => !(y.id == n)), y.id ≠ n := fun y hy => by
  have := (List.mem_filter.1 hy).2
  simpa using this
end Go.Proofs.YtgpdplffljidbaaGreatDoor
namespace Go.Proofs.YtgpdplffljidbaaGreatDoor

theorem least {P : Nat → Prop} : ∀ n, P n → ∃ m, P m ∧ ∀ k, k < m → ¬ P k := fun n => by
  induction n using Nat.strongRecOn with
  | ind n ih =>
    intro h
    by_cases hk : ∃ k, k < n ∧ P k
    · obtain ⟨k, hlt, hp⟩ := hk
      exact ih k hlt hp
    · exact ⟨n, h, fun k hlt hp => hk ⟨k, hlt, hp⟩⟩
theorem ready_right {x : ItemS} (hr : rightS x = true) (now : Int) : readyS now x = decide (x.d ≤ now) := by
  unfold readyS readyT
  rw [(right_sizes hr).2.2.2, Bool.true_and]
theorem ready_none {l : List ItemS} {now : Int} (hr : ∀ x ∈ l, rightS x = true) (hn : ∀ i (hi : i < l.length), ¬ l[i].d ≤ now) : (nextS 0 l).find? (readyS now) = none := by
  rw [List.find?_eq_none]
  intro y hy
  obtain ⟨i, hi, rfl⟩ := next_mem hy
  rw [ready_right (x := { l[i] with id := ((0 + i + 1 : Nat) : Int) }) (hr l[i] (List.getElem_mem hi))]
  rw [decide_eq_false (hn i hi)]
  exact Bool.false_ne_true
theorem ready_some {l : List ItemS} {now : Int} (hr : ∀ x ∈ l, rightS x = true) (i0 : Nat) (h0 : i0 < l.length) (hd : l[i0].d ≤ now) (hlow : ∀ j (hj : j < i0), ¬ (l[j]'(by omega)).d ≤ now) : (nextS 0 l).find? (readyS now) = some { l[i0] with id := ((i0 + 1 : Nat) : Int) } := by
  obtain ⟨h2, e2⟩ := next_at l 0 i0 h0
  have h3 := find_yesS (l := nextS 0 l) (now := now) (i := i0) h2 (fun y hy => by
    obtain ⟨j, hj, rfl⟩ := List.getElem_of_mem hy
    rw [List.length_take] at hj
    rw [List.getElem_take]
    obtain ⟨h4, e4⟩ := next_at l 0 j (by omega)
    rw [e4, ready_right (x := { l[j] with id := ((0 + j + 1 : Nat) : Int) }) (hr l[j] (List.getElem_mem _))]
    exact decide_eq_false (hlow j (by omega))) (by
    rw [e2, ready_right (x := { l[i0] with id := ((0 + i0 + 1 : Nat) : Int) }) (hr l[i0] (List.getElem_mem _))]
    exact decide_eq_true hd)
  rw [h3, e2, Nat.zero_add]
theorem ready_again {l : List ItemS} {n : Int} {x2 z : ItemS} {now : Int} (hn : readyS now x2 = false) (h : (l.map fun y => if y.id = n then x2 else y).find? (readyS now) = some z) : z.id ≠ n := by
  have hz := List.find?_some h
  obtain ⟨y, hy, e⟩ := List.mem_map.1 (List.mem_of_find?_eq_some h)
  by_cases hi : y.id = n
  · rw [if_pos hi] at e
    rw [← e, hn] at hz
    cases hz
  · rw [if_neg hi] at e
    rw [← e]
    exact hi
theorem fail_ready {x : ItemS} {now : Int} (hr : rightS x = true) (hd : x.d ≤ now) : (failT x.b x.t x.d now = ((0, 0, 0), false, 1) ∧ 1099511627776 < now) ∨ failT x.b x.t x.d now = ((0, 0, 0), true, 0) ∨
    (failT x.b x.t x.d now = ((x.b, x.t + 1, now + waitT x.t), false, 0) ∧ rightS { x with b := x.b, t := x.t + 1, d := now + waitT x.t } = true ∧ readyS now { x with b := x.b, t := x.t + 1, d := now + waitT x.t } = false) := by
  obtain ⟨r1, r2, r3, r4⟩ := right_sizes hr
  obtain ⟨_, p2, _, p6, p7⟩ := right_of r4
  have hw := wait_few p6 p7
  by_cases hn : timeT now = true
  · rcases fail_cases x.b x.t x.d now with ⟨h1, _⟩ | ⟨_, h1 | h1 | ⟨h1, h2, _⟩⟩
    · unfold readyT at h1
      rw [r4, decide_eq_true hd] at h1
      cases h1
    · exfalso
      unfold failT at h1
      rw [r4, hn] at h1
      rw [if_neg (by simp), if_neg (by omega)] at h1
      split at h1 <;> simp at h1
    · exact .inr (.inl h1)
    · have hr2 : rightS { x with b := x.b, t := x.t + 1, d := now + waitT x.t } = true := by
        unfold rightS
        simp only [Bool.and_eq_true, decide_eq_true_eq]
        exact ⟨r1, r2, r3, h2⟩
      refine .inr (.inr ⟨h1, hr2, ?_⟩)
      rw [ready_right hr2]
      exact decide_eq_false (by show ¬ (now + waitT x.t ≤ now); omega)
  · rw [Bool.not_eq_true] at hn
    refine .inl ⟨?_, ?_⟩
    · unfold failT
      rw [if_pos (.inr hn)]
    · unfold timeT at hn
      rw [Bool.and_eq_false_iff, decide_eq_false_iff_not, decide_eq_false_iff_not] at hn
      omega
theorem bytes_few {l : List ItemS} (hr : ∀ x ∈ l, rightS x = true) (ht : ∀ x ∈ l, x.tx.length ≤ 500) : bytesS l ≤ 1010 * l.length := by
  induction l with
  | nil => simp [bytesS]
  | cons a l ih =>
    have h1 := ih (fun x hx => hr x (List.mem_cons_of_mem _ hx)) (fun x hx => ht x (List.mem_cons_of_mem _ hx))
    obtain ⟨r1, r2, _, _⟩ := right_sizes (hr a (List.mem_cons_self ..))
    have h2 := ht a (List.mem_cons_self ..)
    rw [show bytesS (a :: l) = a.fr.length + a.to.length + a.tx.length + bytesS l by simp [bytesS], List.length_cons]
    omega
theorem commit_adds {h used : Nat} {ps : List PairP} {l : List ItemS} {last : Nat} (hm : last + l.length ≤ 99999999) (hr : ∀ x ∈ l, rightS x = true) (hroom : used + secN (14 + 45 * l.length + bytesS l) ≤ h) : ∃ u, u ≤ used + secN (14 + 45 * l.length + bytesS l) ∧ commitP h (used, ps) (addS last l) = ((u, behindP ps (addS last l)), 0) := by
  by_cases e : l = []
  · subst e
    refine ⟨used, by omega, ?_⟩
    rw [show addS last [] = [] by unfold addS; rw [if_pos rfl], commit_nothing]
    rfl
  · have h1 := secN_mono (add_size l last hm)
    exact ⟨_, by omega, commit_room (add_fits hm hr) (add_ne e) (by omega)⟩
end Go.Proofs.YtgpdplffljidbaaGreatDoor
