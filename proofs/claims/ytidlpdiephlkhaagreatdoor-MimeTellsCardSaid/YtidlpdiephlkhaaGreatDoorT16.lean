/-
  Texts of this proof, put together: M13C, M13T, M13D.
-/
import Derived.Test.YtidlpdiephlkhaaGreatDoorT15
namespace Go.Proofs.YtidlpdiephlkhaaGreatDoor

end Go.Proofs.YtidlpdiephlkhaaGreatDoor
namespace Go.Proofs.YtidlpdiephlkhaaGreatDoor

mutual
def sameT : TreeM → TreeM → Bool
  | .mk f t b l, .mk f2 t2 b2 l2 => decide (f = f2) && (decide (t = t2) && (decide (b = b2) && (decide (l.length = l2.length) && samesT l l2)))
/-- As far as both go. -/
def samesT : List TreeM → List TreeM → Bool
  | [], _ => true
  | _ :: _, [] => true
  | p :: l, q :: k => sameT p q && samesT l k
end
mutual
theorem same_iff : ∀ (p q : TreeM), sameT p q = true ↔ p = q
  | .mk f t b l, .mk f2 t2 b2 l2 => by
    unfold sameT
    simp only [Bool.and_eq_true, decide_eq_true_eq]
    constructor
    · rintro ⟨rfl, rfl, rfl, h4, h5⟩
      rw [(sames_iff l l2 h4).1 h5]
    · intro h
      obtain ⟨rfl, rfl, rfl, rfl⟩ := TreeM.mk.inj h
      exact ⟨rfl, rfl, rfl, rfl, (sames_iff l l rfl).2 rfl⟩
theorem sames_iff : ∀ (l k : List TreeM), l.length = k.length → (samesT l k = true ↔ l = k)
  | [], [], _ => ⟨fun _ => rfl, fun _ => rfl⟩
  | [], _ :: _, h => by cases h
  | _ :: _, [], h => by cases h
  | p :: l, q :: k, h => by
    unfold samesT
    rw [Bool.and_eq_true, same_iff p q, sames_iff l k (Nat.succ.inj h)]
    constructor
    · rintro ⟨rfl, rfl⟩
      rfl
    · intro e
      exact List.cons.inj e
end
instance treeDec : DecidableEq TreeM := fun p q => decidable_of_iff (sameT p q = true) (same_iff p q)
mutual
def leavesM : TreeM → List TreeM
  | .mk f t b l => if l.isEmpty then [.mk f t b []] else leavessM l
def leavessM : List TreeM → List TreeM
  | [] => []
  | p :: l => leavesM p ++ leavessM l
end
theorem count_pos : ∀ p : TreeM, 1 ≤ countM p
  | .mk _ _ _ _ => by
    unfold countM
    omega
theorem count_mem : ∀ {l : List TreeM} {p : TreeM}, p ∈ l → countM p ≤ countsM l
  | q :: l, p, h => by
    unfold countsM
    rcases List.mem_cons.1 h with rfl | h
    · omega
    · have := count_mem h
      omega
theorem count_parts (p : TreeM) : countM p = 1 + countsM p.parts := by
  obtain ⟨_, _, _, _⟩ := p
  unfold countM
  rfl
theorem counts_take (l : List TreeM) (i : Nat) (h : i < l.length) : countsM (l.take (i + 1)) = countsM (l.take i) + countM l[i] := by
  induction l generalizing i with
  | nil => cases h
  | cons p l ih =>
    match i, h with
    | 0, _ =>
      show countM p + 0 = 0 + countM p
      omega
    | i + 1, h =>
      show countM p + countsM (l.take (i + 1)) = countM p + countsM (l.take i) + _
      rw [ih i (by simpa using h)]
      simp only [List.getElem_cons_succ]
      omega
/-- The fields but those of type and coding. -/
def unfieldM (l : List FieldH) : List FieldH := l.filter fun f => !(sameH f.1 ctM) && !(sameH f.1 cteM)
theorem unfield_take (l : List FieldH) (i : Nat) (h : i < l.length) : unfieldM (l.take (i + 1)) = unfieldM (l.take i) ++ (if (!(sameH l[i].1 ctM) && !(sameH l[i].1 cteM)) = true then [l[i]] else []) := by
  unfold unfieldM
  rw [List.take_succ_eq_append_getElem h, List.filter_append]
  congr 1
  rw [List.filter_cons, List.filter_nil]
end Go.Proofs.YtidlpdiephlkhaaGreatDoor
namespace Go.Proofs.YtidlpdiephlkhaaGreatDoor

theorem same_name {n m : TextH} (h : n.map lowH = m.map lowH) (a : TextH) : sameH a n = sameH a m := by
  unfold sameH
  rw [h]
theorem get_name {n m : TextH} (h : n.map lowH = m.map lowH) (l : List FieldH) : getH l n = getH l m := by
  unfold getH
  simp only [same_name h]
/-- An end and the mark begin there. -/
def preM (mk s : TextH) : Bool := (13 :: 10 :: mk).isPrefixOf s
theorem pre_split (mk s : TextH) : preM mk s = ((s.take 2 == [13, 10]) && mk.isPrefixOf (s.drop 2)) := by
  unfold preM
  match s with
  | [] => rfl
  | [c] =>
    show ((13 == c) && false) = (([c] == [13, 10]) && _)
    have : ([c] == ([13, 10] : TextH)) = false := by
      rw [beq_eq_false_iff_ne]
      simp
    rw [this, Bool.and_false, Bool.false_and]
  | c :: d :: s =>
    show ((13 == c) && ((10 == d) && mk.isPrefixOf s)) = (([c, d] == [13, 10]) && mk.isPrefixOf s)
    rw [← Bool.and_assoc]
    congr 1
    rw [Bool.eq_iff_iff, Bool.and_eq_true, beq_iff_eq, beq_iff_eq, beq_iff_eq]
    constructor
    · rintro ⟨rfl, rfl⟩
      rfl
    · intro h
      simp only [List.cons.injEq, and_true] at h
      exact ⟨h.1.symm, h.2.symm⟩
theorem next_at {mk : TextH} : ∀ (s : TextH) (j : Nat), preM mk (s.drop j) = true → (∀ i, i < j → preM mk (s.drop i) = false) → nextM mk s = some (s.take j, s.drop (j + (mk.length + 2)))
  | [], j, h, _ => by
    rw [List.drop_nil] at h
    cases h
  | c :: s, 0, h, _ => by
    unfold nextM
    rw [if_pos (show (13 :: 10 :: mk).isPrefixOf (c :: s) = true from h), Nat.zero_add]
    rfl
  | c :: s, j + 1, h, h2 => by
    have h0 := h2 0 (by omega)
    have h0 : (13 :: 10 :: mk).isPrefixOf (c :: s) = false := h0
    have ih := next_at s j h (fun i hi => h2 (i + 1) (by omega))
    unfold nextM
    rw [if_neg (by rw [h0]; decide), ih, show j + 1 + (mk.length + 2) = (j + (mk.length + 2)) + 1 by omega]
    rfl
theorem next_not {mk : TextH} : ∀ (s : TextH), (∀ i, preM mk (s.drop i) = false) → nextM mk s = none
  | [], _ => rfl
  | c :: s, h => by
    have h0 : (13 :: 10 :: mk).isPrefixOf (c :: s) = false := h 0
    unfold nextM
    rw [if_neg (by rw [h0]; decide), next_not s (fun i => h (i + 1))]
    rfl
/-- A line begins with the mark there. -/
def markedM (mk raw : TextH) (i : Nat) : Bool := mk.isPrefixOf (raw.drop i) && (decide (i = 0) || (decide (2 ≤ i) && ((raw.drop (i - 2)).take 2 == [13, 10])))
theorem marked_pre {mk raw : TextH} {q : Nat} : markedM mk raw (q + 2) = preM mk (raw.drop q) := by
  unfold markedM
  rw [pre_split, List.drop_drop, show q + 2 - 2 = q by omega, decide_eq_false (by omega : ¬ q + 2 = 0), decide_eq_true (by omega : 2 ≤ q + 2), Bool.false_or, Bool.true_and, Bool.and_comm]
theorem marked_two {mk raw : TextH} {i : Nat} (h : markedM mk raw i = true) (h0 : i ≠ 0) : ∃ q, i = q + 2 ∧ preM mk (raw.drop q) = true := by
  have h2 : 2 ≤ i := by
    unfold markedM at h
    rw [Bool.and_eq_true, Bool.or_eq_true, decide_eq_true_eq, Bool.and_eq_true, decide_eq_true_eq] at h
    rcases h.2 with h | h
    · exact absurd h h0
    · exact h.1
  obtain ⟨q, rfl⟩ : ∃ q, i = q + 2 := ⟨i - 2, by omega⟩
  exact ⟨q, rfl, by rw [← marked_pre]; exact h⟩
theorem marked_get {mk raw : TextH} {a : Nat} (h : markedM mk raw a = true) (x : Nat) (hx : x < mk.length) : raw[a + x]? = mk[x]? := by
  unfold markedM at h
  rw [Bool.and_eq_true] at h
  obtain ⟨u, hu⟩ := List.isPrefixOf_iff_prefix.1 h.1
  rw [← List.getElem?_drop, ← hu, List.getElem?_append_left hx]
theorem pre_get {mk raw : TextH} {q : Nat} (h : preM mk (raw.drop q) = true) : raw[q]? = some 13 ∧ raw[q + 1]? = some 10 := by
  obtain ⟨u, hu⟩ := List.isPrefixOf_iff_prefix.1 h
  constructor
  · have := List.getElem?_drop (xs := raw) (i := q) (j := 0)
    rw [← hu] at this
    exact this.symm
  · have := List.getElem?_drop (xs := raw) (i := q) (j := 1)
    rw [← hu] at this
    exact this.symm
theorem places_next {mk raw : TextH} {a b : Nat} (h13 : (13 : UInt8) ∉ mk) (h10 : (10 : UInt8) ∉ mk) (hmk : mk ≠ []) (ha : markedM mk raw a = true) (hb : markedM mk raw b = true) (hab : a < b) (hno : ∀ i, a < i → i < b → markedM mk raw i = false) :
    a + mk.length + 2 ≤ b ∧ nextM mk (raw.drop (a + mk.length)) = some ((raw.drop (a + mk.length)).take (b - 2 - (a + mk.length)), raw.drop (b + mk.length)) := by
  obtain ⟨q, rfl, hq⟩ := marked_two hb (by omega)
  obtain ⟨g0, g1⟩ := pre_get hq
  have hl : 1 ≤ mk.length := by
    match mk, hmk with
    | _ :: _, _ => simp
  have k1 : a + mk.length ≤ q + 1 := by
    rcases Nat.lt_or_ge (q + 1) (a + mk.length) with h | h
    · have e := marked_get ha (q + 1 - a) (by omega)
      rw [show a + (q + 1 - a) = q + 1 by omega, g1] at e
      exact absurd (List.mem_of_getElem? e.symm) h10
    · exact h
  have k2 : a + mk.length ≤ q := by
    rcases Nat.lt_or_ge q (a + mk.length) with h | h
    · have e := marked_get ha (q - a) (by omega)
      rw [show a + (q - a) = q by omega, g0] at e
      exact absurd (List.mem_of_getElem? e.symm) h13
    · exact h
  refine ⟨by omega, ?_⟩
  have e := next_at (mk := mk) (raw.drop (a + mk.length)) (q - (a + mk.length)) (by
    rw [List.drop_drop, show a + mk.length + (q - (a + mk.length)) = q by omega]
    exact hq) (fun i hi => by
    rw [List.drop_drop, ← marked_pre]
    exact hno _ (by omega) (by omega))
  rw [e, List.drop_drop, show q + 2 - 2 = q by omega, show a + mk.length + (q - (a + mk.length) + (mk.length + 2)) = q + 2 + mk.length by omega]
theorem places_last {mk raw : TextH} {a : Nat} (hno : ∀ i, a < i → markedM mk raw i = false) : nextM mk (raw.drop (a + mk.length)) = none :=
  next_not _ fun i => by
    rw [List.drop_drop, ← marked_pre]
    exact hno _ (by omega)
theorem marked_far {mk raw : TextH} (hmk : mk ≠ []) {i : Nat} (h : raw.length < i + mk.length) : markedM mk raw i = false := by
  unfold markedM
  have : mk.isPrefixOf (raw.drop i) = false := by
    cases hp : mk.isPrefixOf (raw.drop i) with
    | false => rfl
    | true =>
      obtain ⟨u, hu⟩ := List.isPrefixOf_iff_prefix.1 hp
      have := congrArg List.length hu
      rw [List.length_append, List.length_drop] at this
      have hl : 1 ≤ mk.length := by
        match mk, hmk with
        | _ :: _, _ => simp
      omega
  rw [this, Bool.false_and]
/-- The numbers below that are wanted, in order. -/
theorem filter_gap (p : Nat → Bool) (N k : Nat) (h : k + 1 < ((List.range N).filter p).length) :
    ((List.range N).filter p)[k] < ((List.range N).filter p)[k + 1] ∧ ∀ i, ((List.range N).filter p)[k] < i → i < ((List.range N).filter p)[k + 1] → p i = false := by
  have hs : ((List.range N).filter p).Pairwise (· < ·) := List.Pairwise.filter p List.pairwise_lt_range
  have hg := List.pairwise_iff_getElem.1 hs
  refine ⟨hg k (k + 1) (by omega) h (by omega), fun i h1 h2 => ?_⟩
  cases hp : p i with
  | false => rfl
  | true =>
    have hN : ((List.range N).filter p)[k + 1] < N := List.mem_range.1 (List.mem_filter.1 (List.getElem_mem h)).1
    obtain ⟨m, hm, e⟩ := List.getElem_of_mem (List.mem_filter.2 ⟨List.mem_range.2 (by omega), hp⟩ : i ∈ (List.range N).filter p)
    rcases Nat.lt_trichotomy m k with g | rfl | g
    · have := hg m k hm (by omega) g
      omega
    · omega
    · rcases Nat.lt_trichotomy m (k + 1) with g2 | rfl | g2
      · omega
      · omega
      · have := hg (k + 1) m h hm g2
        omega
theorem filter_last (p : Nat → Bool) (N k : Nat) (h : k < ((List.range N).filter p).length) (hk : k + 1 = ((List.range N).filter p).length) : ∀ i, ((List.range N).filter p)[k] < i → i < N → p i = false := fun i h1 h2 => by
  have hs : ((List.range N).filter p).Pairwise (· < ·) := List.Pairwise.filter p List.pairwise_lt_range
  have hg := List.pairwise_iff_getElem.1 hs
  cases hp : p i with
  | false => rfl
  | true =>
    obtain ⟨m, hm, e⟩ := List.getElem_of_mem (List.mem_filter.2 ⟨List.mem_range.2 h2, hp⟩ : i ∈ (List.range N).filter p)
    rcases Nat.lt_trichotomy m k with g | rfl | g
    · have := hg m k hm h g
      omega
    · omega
    · omega
theorem filter_first (p : Nat → Bool) (N : Nat) (h : 0 < ((List.range N).filter p).length) : p ((List.range N).filter p)[0] = true ∧ ((List.range N).filter p)[0] < N ∧ (p 0 = true → ((List.range N).filter p)[0] = 0) := by
  have hm := List.mem_filter.1 (List.getElem_mem h)
  refine ⟨hm.2, List.mem_range.1 hm.1, fun h0 => ?_⟩
  have hs : ((List.range N).filter p).Pairwise (· < ·) := List.Pairwise.filter p List.pairwise_lt_range
  have hg := List.pairwise_iff_getElem.1 hs
  have hN : 0 < N := Nat.lt_of_le_of_lt (Nat.zero_le _) (List.mem_range.1 hm.1)
  obtain ⟨m, hm2, e⟩ := List.getElem_of_mem (List.mem_filter.2 ⟨List.mem_range.2 hN, h0⟩ : 0 ∈ (List.range N).filter p)
  rcases Nat.eq_zero_or_pos m with rfl | hpos
  · exact e
  · have := hg 0 m h hm2 hpos
    omega
def placesM (mk raw : TextH) : List Nat := (List.range (raw.length + 1 - mk.length)).filter (markedM mk raw)
theorem places_mem {mk raw : TextH} {k : Nat} (h : k < (placesM mk raw).length) : markedM mk raw (placesM mk raw)[k] = true ∧ (placesM mk raw)[k] + mk.length ≤ raw.length := by
  have hm := List.mem_filter.1 (List.getElem_mem h)
  have := List.mem_range.1 hm.1
  exact ⟨hm.2, by omega⟩
/-- Between two places: what stands between two divisions. -/
theorem places_step {mk raw : TextH} (h13 : (13 : UInt8) ∉ mk) (h10 : (10 : UInt8) ∉ mk) (hmk : mk ≠ []) {k : Nat} (h : k + 1 < (placesM mk raw).length) :
    (placesM mk raw)[k] + mk.length + 2 ≤ (placesM mk raw)[k + 1] ∧ nextM mk (raw.drop ((placesM mk raw)[k] + mk.length)) =
      some ((raw.drop ((placesM mk raw)[k] + mk.length)).take ((placesM mk raw)[k + 1] - 2 - ((placesM mk raw)[k] + mk.length)), raw.drop ((placesM mk raw)[k + 1] + mk.length)) := by
  obtain ⟨g1, g2⟩ := filter_gap (markedM mk raw) _ k h
  exact places_next h13 h10 hmk (places_mem (by omega)).1 (places_mem h).1 g1 g2
theorem places_end {mk raw : TextH} (hmk : mk ≠ []) {k : Nat} (h : k < (placesM mk raw).length) (hk : k + 1 = (placesM mk raw).length) : nextM mk (raw.drop ((placesM mk raw)[k] + mk.length)) = none := by
  have g := filter_last (markedM mk raw) _ k h hk
  refine places_last fun i hi => ?_
  rcases Nat.lt_or_ge i (raw.length + 1 - mk.length) with h1 | h1
  · exact g i hi h1
  · exact marked_far hmk (by omega)
/-- A body divides only where a line begins with the mark, first of all at its beginning. -/
theorem div_places {mk raw : TextH} (h13 : (13 : UInt8) ∉ mk) (h10 : (10 : UInt8) ∉ mk) (hmk : mk ≠ []) : divM mk raw = if h : 2 ≤ (placesM mk raw).length then (if (placesM mk raw)[0] = 0 then divN (raw.length + 1) mk (raw.drop mk.length) else none) else none := by
  have hp0 : mk.isPrefixOf raw = markedM mk raw 0 := by
    unfold markedM
    rw [List.drop_zero, decide_eq_true rfl, Bool.true_or, Bool.and_true]
  unfold divM
  split
  · rename_i h
    have hm : markedM mk raw 0 = true := by rw [← hp0]; exact h
    have hN : 0 < raw.length + 1 - mk.length := by
      obtain ⟨u, hu⟩ := List.isPrefixOf_iff_prefix.1 h
      rw [← hu, List.length_append]
      omega
    have h0 : 0 < (placesM mk raw).length := List.length_pos_of_mem (List.mem_filter.2 ⟨List.mem_range.2 hN, hm⟩)
    have e0 : (placesM mk raw)[0] = 0 := (filter_first (markedM mk raw) _ h0).2.2 hm
    by_cases h2 : 2 ≤ (placesM mk raw).length
    · rw [dif_pos h2, if_pos e0]
      have := (places_step (mk := mk) (raw := raw) h13 h10 hmk (k := 0) (by omega)).2
      simp only [e0, Nat.zero_add] at this
      rw [this]
    · rw [dif_neg h2]
      have := places_end (mk := mk) (raw := raw) hmk (k := 0) h0 (by omega)
      simp only [e0, Nat.zero_add] at this
      rw [this]
  · rename_i h
    split
    · rename_i h2
      split
      · rename_i e0
        have := (places_mem (mk := mk) (raw := raw) (k := 0) (by omega)).1
        rw [e0, ← hp0] at this
        exact absurd this h
      · rfl
    · rfl
theorem div_end {n : Nat} {mk s : TextH} (h : nextM mk s = none) : divN (n + 1) mk s = if s = [45, 45, 13, 10] then some [] else none := by
  unfold divN
  rw [h]
theorem div_step {n : Nat} {mk s u r : TextH} (h : nextM mk s = some (13 :: 10 :: u, r)) : divN (n + 1) mk s = (divN n mk r).map (u :: ·) := by
  conv =>
    lhs
    unfold divN
    rw [h]
  rfl
theorem div_not {n : Nat} {mk s t r : TextH} (h : nextM mk s = some (t, r)) (ht : t.take 2 ≠ [13, 10]) : divN (n + 1) mk s = none := by
  unfold divN
  rw [h]
  split
  · rename_i e
    cases e
  · rename_i e
    obtain ⟨rfl, _⟩ := Prod.mk.inj (Option.some.inj e)
    exact absurd rfl ht
  · rfl
end Go.Proofs.YtidlpdiephlkhaaGreatDoor
