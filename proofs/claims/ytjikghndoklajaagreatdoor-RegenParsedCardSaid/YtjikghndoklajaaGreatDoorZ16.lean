/-
  Texts of this proof, put together: M13E, M13G, M14P.
-/
import Derived.Test.YtjikghndoklajaaGreatDoorZ08
import Derived.Lib.Split
import Derived.Lib.CountLaws
import Derived.Lib.IndexMore
import Derived.Lib.Strings
import Derived.Test.YtjikghndoklajaaGreatDoorZ15
import Derived.Test.YtjikghndoklajaaGreatDoorZ07
namespace Go.Proofs.YtjikghndoklajaaGreatDoor

def noLine (mk t : TextH) : Prop := mk.isPrefixOf t = false ∧ ∀ i, preM mk (t.drop i) = false
def hasLineM (mk t : TextH) : Bool := Lib.hasPrefix t mk || Lib.contains t (13 :: 10 :: mk)
theorem has_line {mk t : TextH} : hasLineM mk t = false ↔ noLine mk t := by
  unfold hasLineM noLine
  rw [Bool.or_eq_false_iff]
  refine and_congr Iff.rfl ?_
  unfold Lib.contains
  rw [decide_eq_false_iff_not]
  constructor
  · intro h i
    rcases Lib.index_spec t (13 :: 10 :: mk) with ⟨_, h2⟩ | ⟨j, h2, _⟩
    · rcases Nat.lt_or_ge t.length i with hi | hi
      · rw [List.drop_eq_nil_of_le (by omega)]
        rfl
      · exact h2 i hi
    · exact absurd (by rw [h2]; omega) h
  · intro h h0
    rcases Lib.index_spec t (13 :: 10 :: mk) with ⟨h2, _⟩ | ⟨j, h2, _, h3, _⟩
    · omega
    · have h3 : preM mk (t.drop j) = true := h3
      rw [h j] at h3
      cases h3
theorem pre_more {mk d w : TextH} (h : preM mk d = true) : preM mk (d ++ w) = true := by
  obtain ⟨u, hu⟩ := List.isPrefixOf_iff_prefix.1 h
  exact List.isPrefixOf_iff_prefix.2 ⟨u ++ w, by rw [← hu, List.append_assoc]⟩
theorem pfx_more {mk d w : TextH} (h : mk.isPrefixOf d = true) : mk.isPrefixOf (d ++ w) = true := by
  obtain ⟨u, hu⟩ := List.isPrefixOf_iff_prefix.1 h
  exact List.isPrefixOf_iff_prefix.2 ⟨u ++ w, by rw [← hu, List.append_assoc]⟩
theorem pfx_cross {mk t w : TextH} (h13 : (13 : UInt8) ∉ mk) (h : mk.isPrefixOf (t ++ 13 :: w) = true) : mk.isPrefixOf t = true := by
  obtain ⟨u, hu⟩ := List.isPrefixOf_iff_prefix.1 h
  rcases Nat.lt_or_ge t.length mk.length with hl | hl
  · have e : (mk ++ u)[t.length]? = (t ++ 13 :: w)[t.length]? := by rw [hu]
    rw [List.getElem?_append_left hl, List.getElem?_append_right (Nat.le_refl _), Nat.sub_self] at e
    exact absurd (List.mem_of_getElem? e) h13
  · have e := congrArg (List.take mk.length) hu
    rw [List.take_left, List.take_append_of_le_length hl] at e
    exact List.isPrefixOf_iff_prefix.2 ⟨t.drop mk.length, by
      conv =>
        lhs
        rw [e]
      rw [List.length_take, Nat.min_eq_left hl]
      exact List.take_append_drop ..⟩
theorem pre_cross {mk d w : TextH} (h13 : (13 : UInt8) ∉ mk) (hd : d ≠ []) (h : preM mk (d ++ 13 :: w) = true) : preM mk d = true := by
  match d, hd, h with
  | [c], _, h =>
    obtain ⟨u, hu⟩ := List.isPrefixOf_iff_prefix.1 h
    have hu : 13 :: 10 :: (mk ++ u) = c :: 13 :: w := hu
    simp only [List.cons.injEq] at hu
    exact absurd hu.2.1 (by decide)
  | c :: e :: d, _, h =>
    have h : ((13 == c) && ((10 == e) && mk.isPrefixOf (d ++ 13 :: w))) = true := h
    rw [Bool.and_eq_true, Bool.and_eq_true] at h
    show ((13 == c) && ((10 == e) && mk.isPrefixOf d)) = true
    rw [Bool.and_eq_true, Bool.and_eq_true]
    exact ⟨h.1, h.2.1, pfx_cross h13 h.2.2⟩
theorem next_text {mk t r : TextH} (h13 : (13 : UInt8) ∉ mk) (h : noLine mk t) : nextM mk (13 :: 10 :: (t ++ 13 :: 10 :: (mk ++ r))) = some (13 :: 10 :: t, r) := by
  have e := next_at (mk := mk) (13 :: 10 :: (t ++ 13 :: 10 :: (mk ++ r))) (t.length + 2) (by
    show preM mk ((t ++ 13 :: 10 :: (mk ++ r)).drop t.length) = true
    rw [List.drop_left]
    exact List.isPrefixOf_iff_prefix.2 ⟨r, rfl⟩) (fun i hi => by
    match i, hi with
    | 0, _ =>
      show ((13 == 13) && ((10 == 10) && mk.isPrefixOf (t ++ 13 :: 10 :: (mk ++ r)))) = false
      cases hp : mk.isPrefixOf (t ++ 13 :: 10 :: (mk ++ r)) with
      | false => rfl
      | true => exact absurd (pfx_cross h13 hp) (by rw [h.1]; decide)
    | 1, _ => rfl
    | i + 2, hi =>
      show preM mk ((t ++ 13 :: 10 :: (mk ++ r)).drop i) = false
      rw [List.drop_append_of_le_length (by omega)]
      cases hp : preM mk (t.drop i ++ 13 :: 10 :: (mk ++ r)) with
      | false => rfl
      | true =>
        have := pre_cross h13 (by
          intro e
          have := congrArg List.length e
          rw [List.length_drop, List.length_nil] at this
          omega) hp
        rw [h.2 i] at this
        cases this)
  rw [e]
  have e1 : (13 :: 10 :: (t ++ 13 :: 10 :: (mk ++ r))).take (t.length + 2) = 13 :: 10 :: t := by
    show 13 :: 10 :: (t ++ 13 :: 10 :: (mk ++ r)).take t.length = _
    rw [List.take_left]
  have e2 : (13 :: 10 :: (t ++ 13 :: 10 :: (mk ++ r))).drop (t.length + 2 + (mk.length + 2)) = r := by
    rw [← List.drop_drop]
    show ((t ++ 13 :: 10 :: (mk ++ r)).drop t.length).drop (mk.length + 2) = r
    rw [List.drop_left]
    show (mk ++ r).drop mk.length = r
    rw [List.drop_left]
  rw [e1, e2]
theorem next_before {mk : TextH} : ∀ {s t r : TextH}, nextM mk s = some (t, r) → ∀ i, i < t.length → preM mk (s.drop i) = false
  | [], t, r, h, _, _ => by cases h
  | c :: s, t, r, h, i, hi => by
    unfold nextM at h
    split at h
    · obtain ⟨rfl, rfl⟩ := Prod.mk.inj (Option.some.inj h)
      exact absurd hi (by simp)
    · rename_i hp
      cases hn : nextM mk s with
      | none =>
        rw [hn] at h
        cases h
      | some x =>
        rw [hn] at h
        obtain ⟨rfl, rfl⟩ := Prod.mk.inj (Option.some.inj h)
        match i, hi with
        | 0, _ =>
          show (13 :: 10 :: mk).isPrefixOf (c :: s) = false
          exact Bool.eq_false_iff.2 hp
        | i + 1, hi =>
          exact next_before (t := x.1) (r := x.2) hn i (by simpa using hi)
theorem next_no {mk s u r : TextH} (h : nextM mk s = some (13 :: 10 :: u, r)) : noLine mk u := by
  have e := next_some h
  have hb := next_before h
  refine ⟨?_, fun i => ?_⟩
  · have h0 := hb 0 (by simp)
    rw [List.drop_zero, e] at h0
    have h0 : ((13 == 13) && ((10 == 10) && mk.isPrefixOf (u ++ 13 :: 10 :: (mk ++ r)))) = false := h0
    cases hp : mk.isPrefixOf u with
    | false => rfl
    | true =>
      rw [pfx_more hp] at h0
      exact absurd h0 (by decide)
  · rcases Nat.lt_or_ge i u.length with hi | hi
    · have h0 := hb (i + 2) (by simp; omega)
      rw [e] at h0
      have h0 : preM mk ((u ++ 13 :: 10 :: (mk ++ r)).drop i) = false := h0
      rw [List.drop_append_of_le_length (by omega)] at h0
      cases hp : preM mk (u.drop i) with
      | false => rfl
      | true =>
        rw [pre_more hp] at h0
        cases h0
    · rw [List.drop_eq_nil_of_le hi]
      rfl
theorem divn_some {mk : TextH} : ∀ (n : Nat) (s : TextH) (l : List TextH), divN n mk s = some l → mk ++ s = divTextM mk l ∧ ∀ t ∈ l, noLine mk t
  | 0, _, _, h => by cases h
  | n + 1, s, l, h => by
    unfold divN at h
    split at h
    · split at h
      · rename_i h2
        obtain rfl := Option.some.inj h
        exact ⟨by rw [h2]; rfl, fun t ht => by cases ht⟩
      · cases h
    · rename_i u r hx
      cases hd : divN n mk r with
      | none =>
        rw [hd] at h
        cases h
      | some k =>
        rw [hd] at h
        obtain rfl := Option.some.inj h
        obtain ⟨h1, h2⟩ := divn_some n r k hd
        refine ⟨?_, fun t ht => ?_⟩
        · rw [next_some hx]
          show mk ++ (13 :: 10 :: u ++ 13 :: 10 :: (mk ++ r)) = mk ++ 13 :: 10 :: (u ++ 13 :: 10 :: divTextM mk k)
          rw [h1]
          simp
        · rcases List.mem_cons.1 ht with rfl | ht
          · exact next_no hx
          · exact h2 t ht
    · cases h
theorem divn_join {mk : TextH} (h13 : (13 : UInt8) ∉ mk) (hmk : mk ≠ []) : ∀ (l : List TextH) (n : Nat), (∀ t ∈ l, noLine mk t) → l.length < n → ∀ s, divTextM mk l = mk ++ s → divN n mk s = some l
  | [], n, _, hn, s, hs => by
    match n, hn with
    | n + 1, _ =>
      obtain rfl : [45, 45, 13, 10] = s := List.append_cancel_left hs
      have : nextM mk [45, 45, 13, 10] = none := next_none fun u v e => by
        have hl := congrArg List.length e
        simp only [List.length_append, List.length_cons, List.length_nil] at hl
        have hm : 1 ≤ mk.length := by
          match mk, hmk with
          | _ :: _, _ => simp
        have : u.length ≤ 1 := by omega
        match u, this with
        | [], _ => simp at e
        | [x], _ => simp at e
      unfold divN
      rw [this]
      rfl
  | t :: l, n, h, hn, s, hs => by
    match n, hn with
    | n + 1, hn =>
      obtain ⟨r, hr⟩ := divtext_mk mk l
      have e : s = 13 :: 10 :: (t ++ 13 :: 10 :: (mk ++ r)) := by
        rw [← hr]
        exact (List.append_cancel_left hs).symm
      have hx : nextM mk s = some (13 :: 10 :: t, r) := by
        rw [e]
        exact next_text h13 (h t (List.mem_cons_self ..))
      unfold divN
      rw [hx]
      show (divN n mk r).map (t :: ·) = _
      rw [divn_join h13 hmk l n (fun t ht => h t (List.mem_cons_of_mem _ ht)) (by simp at hn; omega) r hr]
      rfl
theorem div_iff {mk raw : TextH} (h13 : (13 : UInt8) ∉ mk) (hmk : mk ≠ []) (l : List TextH) : divM mk raw = some l ↔ raw = divTextM mk l ∧ l ≠ [] ∧ ∀ t ∈ l, noLine mk t := by
  constructor
  · intro h
    have hne := div_ne h
    unfold divM at h
    split at h
    · rename_i hp
      obtain ⟨r, rfl⟩ := List.isPrefixOf_iff_prefix.1 hp
      rw [List.drop_left] at h
      split at h
      · cases h
      · obtain ⟨h1, h2⟩ := divn_some _ _ _ h
        exact ⟨h1, hne, h2⟩
    · cases h
  · rintro ⟨rfl, hl, h⟩
    obtain ⟨r, hr⟩ := divtext_mk mk l
    have hlen : ∀ k : List TextH, k.length < (divTextM mk k).length + 1 := by
      intro k
      induction k with
      | nil => simp
      | cons t k ih =>
        unfold divTextM
        simp only [List.length_append, List.length_cons] at ih ⊢
        omega
    have hd := divn_join h13 hmk l ((divTextM mk l).length + 1) h (hlen l) r hr
    have hne : nextM mk r ≠ none := fun e => by
      have hd2 := hd
      unfold divN at hd2
      rw [e] at hd2
      simp only at hd2
      split at hd2
      · exact hl (Option.some.inj hd2).symm
      · cases hd2
    unfold divM
    rw [if_pos (show mk.isPrefixOf (divTextM mk l) = true by rw [hr]; exact List.isPrefixOf_iff_prefix.2 ⟨r, rfl⟩)]
    have e : (divTextM mk l).drop mk.length = r := by
      rw [hr]
      exact List.drop_left
    rw [e]
    cases hx : nextM mk r with
    | none => exact absurd hx hne
    | some x => exact hd

def joinM (sep : TextH) : List TextH → TextH
  | [] => []
  | [t] => t
  | t :: l => t ++ (sep ++ joinM sep l)
theorem joinM_cons {sep t : TextH} {l : List TextH} (hl : l ≠ []) : joinM sep (t :: l) = t ++ (sep ++ joinM sep l) := by
  match l, hl with
  | _ :: _, _ => rfl
theorem splitk_ne (sep : TextH) : ∀ (k : Nat) (s : TextH), Lib.splitK sep 0 k s ≠ []
  | 0, _ => by simp [Lib.splitK]
  | k + 1, s => by
    unfold Lib.splitK
    split <;> simp
theorem splitk_join (sep : TextH) : ∀ (k : Nat) (s : TextH), joinM sep (Lib.splitK sep 0 k s) = s
  | 0, _ => rfl
  | k + 1, s => by
    unfold Lib.splitK
    split
    · rfl
    · rename_i h
      rcases Lib.index_spec s sep with ⟨h2, _⟩ | ⟨j, h2, hj, h3, _⟩
      · exact absurd (beq_iff_eq.2 h2) h
      · rw [joinM_cons (splitk_ne sep k _), splitk_join sep k, h2]
        have e : (j : Int).toNat = j := by omega
        rw [e, Nat.add_zero]
        obtain ⟨u, hu⟩ := List.isPrefixOf_iff_prefix.1 (show sep.isPrefixOf (s.drop j) = true from h3)
        have e2 : s.drop (j + sep.length) = u := by
          rw [← List.drop_drop, ← hu, List.drop_left]
        rw [e2, hu, List.take_append_drop]
theorem split_join {sep s : TextH} : joinM sep (Lib.split s sep) = s := splitk_join sep _ s
theorem split_ne {sep s : TextH} : Lib.split s sep ≠ [] := splitk_ne sep _ s
theorem split_miss {s sep : TextH} (h : Lib.index s sep = -1) : Lib.split s sep = [s] := by
  unfold Lib.split
  rw [Lib.count_miss h]
  rfl
theorem split_hit {s sep : TextH} {i : Nat} (hsep : sep ≠ []) (h : Lib.index s sep = i) : Lib.split s sep = s.take i :: Lib.split (s.drop (i + sep.length)) sep := by
  unfold Lib.split
  rw [Lib.count_hit hsep h, Nat.add_comm 1]
  have hn : ¬ (Lib.index s sep == -1) = true := fun e => by have := beq_iff_eq.1 e; omega
  have e : (Lib.index s sep).toNat = i := by omega
  conv =>
    lhs
    unfold Lib.splitK
  rw [if_neg hn, e, Nat.add_zero]
theorem split_lenM {sep : TextH} (hsep : sep ≠ []) : ∀ (n : Nat) (s : TextH), s.length < n → (Lib.split s sep).length = Lib.count s sep + 1
  | 0, _, h => absurd h (Nat.not_lt_zero _)
  | n + 1, s, h => by
    rcases Lib.index_spec s sep with ⟨h2, _⟩ | ⟨j, h2, hj, h3, _⟩
    · rw [split_miss h2, Lib.count_miss h2]
      rfl
    · obtain ⟨u, hu⟩ := List.isPrefixOf_iff_prefix.1 (show sep.isPrefixOf (s.drop j) = true from h3)
      have hl := congrArg List.length hu
      rw [List.length_append, List.length_drop] at hl
      have h1 : 1 ≤ sep.length := by
        match sep, hsep with
        | _ :: _, _ => simp
      rw [split_hit hsep h2, Lib.count_hit hsep h2, List.length_cons, split_lenM hsep n (s.drop (j + sep.length)) (by rw [List.length_drop]; omega)]
      omega
theorem join_mem {sep t : TextH} : ∀ {l : List TextH}, t ∈ l → t.length ≤ (joinM sep l).length
  | [], h => by cases h
  | [a], h => by
    obtain rfl := List.mem_singleton.1 h
    exact Nat.le_refl _
  | a :: b :: l, h => by
    rw [joinM_cons (t := a) (l := b :: l) (by simp), List.length_append, List.length_append]
    rcases List.mem_cons.1 h with rfl | h
    · omega
    · have := join_mem (sep := sep) h
      omega
theorem split_mem {s sep t : TextH} (h : t ∈ Lib.split s sep) : t.length ≤ s.length := by
  have := join_mem (sep := sep) h
  rw [split_join] at this
  exact this
theorem split_of {mk : TextH} (h13 : (13 : UInt8) ∉ mk) : ∀ (l : List TextH), l ≠ [] → (∀ t ∈ l, noLine mk t) → Lib.split (joinM (13 :: 10 :: (mk ++ [13, 10])) l) (13 :: 10 :: (mk ++ [13, 10])) = l
  | [], h, _ => absurd rfl h
  | [t], _, h => by
    refine split_miss (Lib.index_none fun j _ => ?_)
    show Lib.occAt t (13 :: 10 :: (mk ++ [13, 10])) j = false
    cases hp : Lib.occAt t (13 :: 10 :: (mk ++ [13, 10])) j with
    | false => rfl
    | true =>
      obtain ⟨u, hu⟩ := List.isPrefixOf_iff_prefix.1 (show (13 :: 10 :: (mk ++ [13, 10])).isPrefixOf (t.drop j) = true from hp)
      have : preM mk (t.drop j) = true := List.isPrefixOf_iff_prefix.2 ⟨[13, 10] ++ u, by rw [← hu]; simp⟩
      rw [(h t (List.mem_singleton.2 rfl)).2 j] at this
      cases this
  | t :: t2 :: l, _, h => by
    have ht := h t (List.mem_cons_self ..)
    rw [joinM_cons (by simp)]
    obtain ⟨J, hJ⟩ : ∃ J, joinM (13 :: 10 :: (mk ++ [13, 10])) (t2 :: l) = J := ⟨_, rfl⟩
    rw [hJ]
    have hi : Lib.index (t ++ (13 :: 10 :: (mk ++ [13, 10]) ++ J)) (13 :: 10 :: (mk ++ [13, 10])) = t.length := by
      refine Lib.index_first (by rw [List.length_append]; omega) ?_ (fun j hj => ?_)
      · show (13 :: 10 :: (mk ++ [13, 10])).isPrefixOf _ = true
        rw [List.drop_left]
        exact List.isPrefixOf_iff_prefix.2 ⟨J, rfl⟩
      · cases hp : Lib.occAt (t ++ (13 :: 10 :: (mk ++ [13, 10]) ++ J)) (13 :: 10 :: (mk ++ [13, 10])) j with
        | false => rfl
        | true =>
          unfold Lib.occAt at hp
          obtain ⟨u, hu⟩ := List.isPrefixOf_iff_prefix.1 hp
          rw [List.drop_append_of_le_length (by omega)] at hu
          have : preM mk (t.drop j ++ 13 :: (10 :: (mk ++ [13, 10]) ++ J)) = true := List.isPrefixOf_iff_prefix.2 ⟨[13, 10] ++ u, by
            have e : t.drop j ++ 13 :: (10 :: (mk ++ [13, 10]) ++ J) = t.drop j ++ (13 :: 10 :: (mk ++ [13, 10]) ++ J) := rfl
            rw [e, ← hu]
            simp⟩
          have := pre_cross h13 (fun e => by
            have := congrArg List.length e
            rw [List.length_drop, List.length_nil] at this
            omega) this
          rw [ht.2 j] at this
          cases this
    rw [split_hit (by simp) hi, List.take_left]
    have e : (t ++ (13 :: 10 :: (mk ++ [13, 10]) ++ J)).drop (t.length + (13 :: 10 :: (mk ++ [13, 10])).length) = J := by
      rw [← List.drop_drop, List.drop_left, List.drop_left]
    rw [e, ← hJ, split_of h13 (t2 :: l) (by simp) (fun x hx => h x (List.mem_cons_of_mem _ hx))]
theorem divtext_join (mk : TextH) : ∀ l : List TextH, l ≠ [] → divTextM mk l = mk ++ [13, 10] ++ (joinM (13 :: 10 :: (mk ++ [13, 10])) l ++ 13 :: 10 :: (mk ++ [45, 45, 13, 10]))
  | [], h => absurd rfl h
  | [t], _ => by
    show mk ++ 13 :: 10 :: (t ++ 13 :: 10 :: (mk ++ [45, 45, 13, 10])) = _
    simp [joinM]
  | t :: t2 :: l, _ => by
    have ih := divtext_join mk (t2 :: l) (by simp)
    show mk ++ 13 :: 10 :: (t ++ 13 :: 10 :: divTextM mk (t2 :: l)) = _
    rw [ih, joinM_cons (t := t) (l := t2 :: l) (by simp)]
    simp only [List.append_assoc, List.cons_append, List.nil_append]
def divP (mk raw : TextH) : Option (List TextH) :=
  if Lib.hasPrefix raw (mk ++ [13, 10]) = true ∧ Lib.hasSuffix (Lib.trimPrefix raw (mk ++ [13, 10])) (13 :: 10 :: (mk ++ [45, 45, 13, 10])) = true then
    (if (Lib.split (Lib.trimSuffix (Lib.trimPrefix raw (mk ++ [13, 10])) (13 :: 10 :: (mk ++ [45, 45, 13, 10]))) (13 :: 10 :: (mk ++ [13, 10]))).any (hasLineM mk) = true then none
     else some (Lib.split (Lib.trimSuffix (Lib.trimPrefix raw (mk ++ [13, 10])) (13 :: 10 :: (mk ++ [45, 45, 13, 10]))) (13 :: 10 :: (mk ++ [13, 10]))))
  else none
theorem divp_iff {mk raw : TextH} (h13 : (13 : UInt8) ∉ mk) (l : List TextH) : divP mk raw = some l ↔ raw = divTextM mk l ∧ l ≠ [] ∧ ∀ t ∈ l, noLine mk t := by
  constructor
  · intro h
    unfold divP at h
    split at h
    · rename_i hc
      obtain ⟨h1, h2⟩ := hc
      split at h
      · cases h
      · rename_i ha
        obtain ⟨S, hS⟩ : ∃ S, Lib.trimSuffix (Lib.trimPrefix raw (mk ++ [13, 10])) (13 :: 10 :: (mk ++ [45, 45, 13, 10])) = S := ⟨_, rfl⟩
        rw [hS] at h ha
        have hl := Option.some.inj h
        have hr : raw = mk ++ [13, 10] ++ Lib.trimPrefix raw (mk ++ [13, 10]) := by
          unfold Lib.trimPrefix
          rw [if_pos h1]
          obtain ⟨u, hu⟩ := List.isPrefixOf_iff_prefix.1 (show (mk ++ [13, 10]).isPrefixOf raw = true from h1)
          conv =>
            rhs
            rw [← hu]
          rw [List.drop_left, hu]
        have hb : Lib.trimPrefix raw (mk ++ [13, 10]) = S ++ 13 :: 10 :: (mk ++ [45, 45, 13, 10]) := by
          rw [← hS]
          unfold Lib.trimSuffix
          rw [if_pos h2]
          obtain ⟨u, hu⟩ := List.isSuffixOf_iff_suffix.1 (show (13 :: 10 :: (mk ++ [45, 45, 13, 10])).isSuffixOf (Lib.trimPrefix raw (mk ++ [13, 10])) = true from h2)
          rw [← hu, List.length_append, Nat.add_sub_cancel, List.take_left]
        refine ⟨?_, ?_, fun t ht => has_line.1 ?_⟩
        · rw [divtext_join mk l (by rw [← hl]; exact split_ne), ← hl, split_join]
          rw [← hb]
          exact hr
        · rw [← hl]
          exact split_ne
        · cases hq : hasLineM mk t with
          | false => rfl
          | true => exact absurd (List.any_eq_true.2 ⟨t, by rw [hl]; exact ht, hq⟩) ha
    · cases h
  · rintro ⟨rfl, hl, h⟩
    have e := divtext_join mk l hl
    obtain ⟨J, hJ⟩ : ∃ J, joinM (13 :: 10 :: (mk ++ [13, 10])) l = J := ⟨_, rfl⟩
    rw [hJ] at e
    have h1 : Lib.hasPrefix (divTextM mk l) (mk ++ [13, 10]) = true := List.isPrefixOf_iff_prefix.2 ⟨_, e.symm⟩
    have e2 : Lib.trimPrefix (divTextM mk l) (mk ++ [13, 10]) = J ++ 13 :: 10 :: (mk ++ [45, 45, 13, 10]) := by
      unfold Lib.trimPrefix
      rw [if_pos h1, e, List.drop_left]
    have h2 : Lib.hasSuffix (J ++ 13 :: 10 :: (mk ++ [45, 45, 13, 10])) (13 :: 10 :: (mk ++ [45, 45, 13, 10])) = true := List.isSuffixOf_iff_suffix.2 ⟨_, rfl⟩
    have e3 : Lib.trimSuffix (J ++ 13 :: 10 :: (mk ++ [45, 45, 13, 10])) (13 :: 10 :: (mk ++ [45, 45, 13, 10])) = J := by
      unfold Lib.trimSuffix
      rw [if_pos h2, List.length_append, Nat.add_sub_cancel, List.take_left]
    unfold divP
    rw [e2, if_pos ⟨h1, h2⟩, e3, ← hJ, split_of h13 l hl h, if_neg]
    intro ha
    obtain ⟨t, ht, hq⟩ := List.any_eq_true.1 ha
    rw [has_line.2 (h t ht)] at hq
    cases hq
theorem divp_eq {mk raw : TextH} (h13 : (13 : UInt8) ∉ mk) (hmk : mk ≠ []) : divP mk raw = divM mk raw := by
  cases h : divM mk raw with
  | some l => exact (divp_iff h13 l).2 ((div_iff h13 hmk l).1 h)
  | none =>
    cases h2 : divP mk raw with
    | none => rfl
    | some l =>
      have := (div_iff h13 hmk l).2 ((divp_iff h13 l).1 h2)
      rw [h] at this
      cases this
end Go.Proofs.YtjikghndoklajaaGreatDoor
namespace Go.Proofs.YtjikghndoklajaaGreatDoor

theorem top_tot : ∀ (f : Nat) {s : TextH} {ls : List TextH} {rest : TextH}, topH f s = some (ls, rest) → ls.flatten.length + rest.length ≤ s.length
  | 0, s, ls, rest, h => by cases h
  | f + 1, s, ls, rest, h => by
    unfold topH at h
    cases hc : cutH s with
    | none =>
      rw [hc] at h
      cases h
    | some x =>
      obtain ⟨l, r⟩ := x
      rw [hc] at h
      have e := (cutH_eq s l r hc).1
      have hl := congrArg List.length e
      simp only [List.length_append, List.length_cons] at hl
      match l, h with
      | [], h =>
        obtain ⟨rfl, rfl⟩ := Prod.mk.inj (Option.some.inj h)
        simp
        omega
      | c :: l, h =>
        simp only at h
        cases ht : topH f r with
        | none =>
          rw [ht] at h
          cases h
        | some y =>
          rw [ht] at h
          obtain ⟨rfl, rfl⟩ := Prod.mk.inj (Option.some.inj h)
          have := top_tot f (ls := y.1) (rest := y.2) ht
          rw [List.flatten_cons, List.length_append]
          omega
theorem join_flat : ∀ ls : List TextH, (joinH ls).flatten = ls.flatten
  | [] => rfl
  | l :: ls => by
    have ih := join_flat ls
    rw [joinH]
    show (if goesH (ls.headD []) = true then (l ++ (joinH ls).headD []) :: (joinH ls).drop 1 else l :: joinH ls).flatten = _
    split
    · rw [List.flatten_cons, List.flatten_cons, ← ih, List.append_assoc]
      congr 1
      cases joinH ls with
      | nil => rfl
      | cons _ _ => rfl
    · rw [List.flatten_cons, List.flatten_cons, ih]
theorem flat_mem {ls : List TextH} {x : TextH} (h : x ∈ ls) : x.length ≤ ls.flatten.length := by
  induction ls with
  | nil => cases h
  | cons a l ih =>
    rw [List.flatten_cons, List.length_append]
    rcases List.mem_cons.1 h with rfl | h
    · omega
    · have := ih h
      omega
theorem drop_le {p : UInt8 → Bool} (l : TextH) : (l.dropWhile p).length ≤ l.length := by
  induction l with
  | nil => exact Nat.le_refl _
  | cons a l ih =>
    rw [List.dropWhile_cons]
    split
    · rw [List.length_cons]
      omega
    · exact Nat.le_refl _
theorem takeW_le {p : UInt8 → Bool} (l : TextH) : (l.takeWhile p).length ≤ l.length := by
  induction l with
  | nil => exact Nat.le_refl _
  | cons a l ih =>
    rw [List.takeWhile_cons]
    split
    · rw [List.length_cons, List.length_cons]
      omega
    · exact Nat.zero_le _
theorem field_le {w : TextH} {f : FieldH} (h : fieldH w = some f) : f.1.length ≤ w.length ∧ f.2.length ≤ w.length := by
  unfold fieldH at h
  split at h
  · obtain rfl := Option.some.inj h
    refine ⟨takeW_le _, ?_⟩
    show (trimH _).length ≤ _
    unfold trimH
    rw [List.length_reverse]
    refine Nat.le_trans (drop_le _) ?_
    rw [List.length_reverse]
    refine Nat.le_trans (drop_le _) ?_
    rw [List.length_drop]
    have := drop_le (p := (· != 58)) w
    omega
  · cases h
theorem fields_le {M : Nat} : ∀ {ws : List TextH} {l : List FieldH}, (∀ w ∈ ws, w.length ≤ M) → fieldsH ws = some l → ∀ f ∈ l, f.1.length ≤ M ∧ f.2.length ≤ M
  | [], l, _, h, f, hf => by
    obtain rfl := Option.some.inj h
    cases hf
  | w :: ws, l, hw, h, f, hf => by
    rw [fieldsH] at h
    cases hq : fieldH w with
    | none =>
      rw [hq] at h
      cases h
    | some g =>
      rw [hq] at h
      have h : (if rightB g = true then (fieldsH ws).map (g :: ·) else none) = some l := h
      split at h
      · cases hr : fieldsH ws with
        | none =>
          rw [hr] at h
          cases h
        | some k =>
          rw [hr] at h
          obtain rfl := Option.some.inj h
          rcases List.mem_cons.1 hf with rfl | hf
          · obtain ⟨h1, h2⟩ := field_le hq
            have := hw w (List.mem_cons_self ..)
            exact ⟨by omega, by omega⟩
          · exact fields_le (fun w h => hw w (List.mem_cons_of_mem _ h)) hr f hf
      · cases h
theorem parse_bad {s : TextH} (h : (parseH s).2 ≠ 0) : (parseH s).1 = ([], []) := by
  unfold parseH at h ⊢
  cases ht : topH (s.length + 1) s with
  | none => rfl
  | some x =>
    obtain ⟨ls, rest⟩ := x
    rw [ht] at h
    simp only at h ⊢
    split
    · rfl
    rename_i h1
    rw [if_neg h1] at h
    split
    · rfl
    rename_i h2
    rw [if_neg h2] at h
    cases hf : fieldsH (joinH ls) with
    | none => rfl
    | some fs =>
      rw [hf] at h
      simp only at h ⊢
      split
      · rfl
      · rename_i h3
        rw [if_neg h3] at h
        exact absurd rfl h
theorem parse_small (s : TextH) : (∀ f ∈ (parseH s).1.1, f.1.length ≤ s.length ∧ f.2.length ≤ s.length) ∧ (parseH s).1.2.length ≤ s.length := by
  by_cases h : (parseH s).2 = 0
  · obtain ⟨ls, rest, fs, h1, _, _, h4, _, h6⟩ := good_parts h
    rw [h6]
    have ht := top_tot _ h1
    refine ⟨fun f hf => fields_le (M := s.length) (fun w hw => ?_) h4 f hf, by show rest.length ≤ _; omega⟩
    have := flat_mem hw
    rw [join_flat] at this
    omega
  · rw [parse_bad h]
    exact ⟨(fun f hf => by cases hf), Nat.zero_le _⟩

theorem pars_vals : ∀ {l : List ParC}, parsC l = true → ∀ p ∈ l, p.2.length ≤ 70 ∧ ∀ c ∈ p.2, nameCA c = true
  | [], _, _, hp => by cases hp
  | a :: l, h, p, hp => by
    unfold parsC at h
    simp only [Bool.and_eq_true] at h
    obtain ⟨_, h2, _, h4⟩ := h
    rcases List.mem_cons.1 hp with rfl | hp
    · unfold valT at h2
      rw [Bool.and_eq_true, decide_eq_true_eq, List.all_eq_true] at h2
      exact h2
    · exact pars_vals h4 p hp
theorem typ_vals {l : List FieldH} {t : TypeC} (h : typM l = some t) : ∀ p ∈ t.2.2, p.2.length ≤ 70 ∧ ∀ c ∈ p.2, nameCA c = true := by
  unfold typM at h
  cases hg : getH l ctM with
  | none =>
    rw [hg] at h
    obtain rfl := Option.some.inj h
    exact fun p hp => by cases hp
  | some b =>
    rw [hg] at h
    have h : parseC b = some t := h
    unfold parseC at h
    cases hr : readC b with
    | none =>
      rw [hr] at h
      cases h
    | some u =>
      rw [hr] at h
      have h : (if rightC u = true then some u else none) = some t := h
      split at h
      · rename_i hq
        obtain rfl := Option.some.inj h
        unfold rightC at hq
        simp only [Bool.and_eq_true] at hq
        exact pars_vals hq.2.2.2
      · cases h
theorem border_vals {l : List FieldH} {t : TypeC} (h : typM l = some t) : (borderM t).length ≤ 70 ∧ ∀ c ∈ borderM t, nameCA c = true := by
  unfold borderM findC
  cases hf : List.find? (fun p => p.1 == boundM) t.2.2 with
  | none => exact ⟨Nat.zero_le _, (fun c hc => by cases hc)⟩
  | some p => exact typ_vals h p (List.mem_of_find?_eq_some hf)
theorem border_clean {l : List FieldH} {t : TypeC} (h : typM l = some t) : (13 : UInt8) ∉ 45 :: 45 :: borderM t ∧ (10 : UInt8) ∉ 45 :: 45 :: borderM t := by
  have hv := (border_vals h).2
  constructor
  · intro hm
    rcases List.mem_cons.1 hm with h | hm
    · cases h
    rcases List.mem_cons.1 hm with h | hm
    · cases h
    have := hv _ hm
    exact absurd this (by decide)
  · intro hm
    rcases List.mem_cons.1 hm with h | hm
    · cases h
    rcases List.mem_cons.1 hm with h | hm
    · cases h
    have := hv _ hm
    exact absurd this (by decide)
end Go.Proofs.YtjikghndoklajaaGreatDoor
namespace Go.Proofs.YtjikghndoklajaaGreatDoor

def rawR (t : TypeC) (b : TextH) : TextH := if t.1 = textM then encQ b else foldB (encB b)
def codR (t : TypeC) : TextH := if t.1 = textM then quotedM else base64M
mutual
inductive LayT : TreeM → TreeM → TextH → Prop
  | leaf (f : List FieldH) (t : TypeC) (b : TextH) (hm : t.1 ≠ multiM) (ht : rightC t = true) (hp : (printH (unfieldM f ++ [(ctM, textC t), (cteM, codR t)])).2 = 0) :
      LayT (.mk f t b []) (.mk (unfieldM f ++ [(ctM, textC t), (cteM, codR t)]) t b []) (headerH (unfieldM f ++ [(ctM, textC t), (cteM, codR t)]) ++ rawR t b)
  | multi (f : List FieldH) (t t2 : TypeC) (l cs : List TreeM) (ts : List TextH) (hm : t2.1 = multiM) (ht : rightC t2 = true) (hb : borderM t2 ≠ []) (hne : l ≠ []) (hl : LaysT l cs ts) (hno : ∀ x ∈ ts, ∀ u v, x ≠ u ++ (45 :: 45 :: borderM t2) ++ v)
      (hp : (printH (unfieldM f ++ [(ctM, textC t2)])).2 = 0) :
      LayT (.mk f t [] l) (.mk (unfieldM f ++ [(ctM, textC t2)]) t2 [] cs) (headerH (unfieldM f ++ [(ctM, textC t2)]) ++ divTextM (45 :: 45 :: borderM t2) ts)
inductive LaysT : List TreeM → List TreeM → List TextH → Prop
  | nil : LaysT [] [] []
  | cons {p c : TreeM} {t : TextH} {l cs : List TreeM} {ts : List TextH} (h : LayT p c t) (hl : LaysT l cs ts) : LaysT (p :: l) (c :: cs) (t :: ts)
end
theorem lays_len : ∀ {l cs : List TreeM} {ts : List TextH}, LaysT l cs ts → cs.length = l.length ∧ ts.length = l.length
  | _, _, _, .nil => ⟨rfl, rfl⟩
  | _, _, _, .cons _ hl => by
    obtain ⟨h1, h2⟩ := lays_len hl
    exact ⟨by rw [List.length_cons, List.length_cons, h1], by rw [List.length_cons, List.length_cons, h2]⟩
theorem unfield_not (l : List FieldH) : ∀ f ∈ unfieldM l, sameH f.1 ctM = false ∧ sameH f.1 cteM = false := fun f hf => by
  have := (List.mem_filter.1 hf).2
  simp only [Bool.and_eq_true, Bool.not_eq_true'] at this
  exact this
theorem same_names : sameH ctM ctM = true ∧ sameH cteM cteM = true ∧ sameH ctM cteM = false := by decide
theorem typ_laid (f : List FieldH) {t : TypeC} (ht : rightC t = true) (r : List FieldH) : typM (unfieldM f ++ (ctM, textC t) :: r) = some t := by
  unfold typM
  rw [get_more fun x hx => (unfield_not f x hx).1]
  have e : getH ((ctM, textC t) :: r) ctM = some (textC t) := by
    unfold getH
    rw [List.find?_cons, same_names.1]
    rfl
  rw [e]
  have := print_back t [] [] ht rfl rfl
  rw [List.nil_append, List.append_nil] at this
  exact this
theorem get_cte (f : List FieldH) (x c : TextH) : getH (unfieldM f ++ [(ctM, x), (cteM, c)]) cteM = some c := by
  rw [get_more fun y hy => (unfield_not f y hy).2]
  unfold getH
  rw [List.find?_cons, same_names.2.2, List.find?_cons, same_names.2.1]
  rfl
theorem get_nocte (f : List FieldH) (x : TextH) : getH (unfieldM f ++ [(ctM, x)]) cteM = none := by
  rw [get_more fun y hy => (unfield_not f y hy).2]
  unfold getH
  rw [List.find?_cons, same_names.2.2]
  rfl
theorem leaf_laid (f : List FieldH) (t : TypeC) (b x : TextH) : leafM (codM (unfieldM f ++ [(ctM, x), (cteM, codR t)])) (rawR t b) = some b := by
  by_cases h : t.1 = textM
  · have e1 : codR t = quotedM := if_pos h
    have e2 : rawR t b = encQ b := if_pos h
    have e3 : codM (unfieldM f ++ [(ctM, x), (cteM, quotedM)]) = 2 := by
      unfold codM
      rw [get_cte]
      decide
    rw [e1, e2, e3]
    exact coded_qp b
  · have e1 : codR t = base64M := if_neg h
    have e2 : rawR t b = foldB (encB b) := if_neg h
    have e3 : codM (unfieldM f ++ [(ctM, x), (cteM, base64M)]) = 1 := by
      unfold codM
      rw [get_cte]
      decide
    rw [e1, e2, e3]
    exact coded_b64 b
theorem mult_cod (f : List FieldH) (x : TextH) : codM (unfieldM f ++ [(ctM, x)]) = 0 := by
  unfold codM
  rw [get_nocte]
theorem head_back {l : List FieldH} (h : (printH l).2 = 0) (more : TextH) : parseH (headerH l ++ more) = ((l, more), 0) := by
  have := parse_back h more
  rw [(print_ok h).2.2.2] at this
  exact this
theorem lay_parse : ∀ (d : Nat) (p c : TreeM) (s : TextH) (n : Nat), LayT p c s → goodM d p → n + countM p ≤ 16 → partM d s n = (c, n + countM p, 0)
  | 0, _, _, _, n, .leaf f t b hm ht hp, hg, hn => by
    have hc : countM (.mk f t b []) = 1 := rfl
    rw [hc] at hn ⊢
    have hpb := head_back hp (rawR t b)
    have := step_leaf (sub := none) (s := headerH (unfieldM f ++ [(ctM, textC t), (cteM, codR t)]) ++ rawR t b) (n := n) (t := t) (b := b) (by omega) (by rw [hpb]) (by rw [hpb]; exact typ_laid f ht _) hm (by rw [hpb]; exact leaf_laid f t b _)
    rw [hpb] at this
    exact this
  | 0, _, _, _, n, .multi f t t2 l cs ts hm ht hb hne hl hno hp, hg, hn => absurd hg.2 hne
  | d + 1, _, _, _, n, .leaf f t b hm ht hp, hg, hn => by
    have hc : countM (.mk f t b []) = 1 := rfl
    rw [hc] at hn ⊢
    have hpb := head_back hp (rawR t b)
    have := step_leaf (sub := some (partM d)) (s := headerH (unfieldM f ++ [(ctM, textC t), (cteM, codR t)]) ++ rawR t b) (n := n) (t := t) (b := b) (by omega) (by rw [hpb]) (by rw [hpb]; exact typ_laid f ht _) hm (by rw [hpb]; exact leaf_laid f t b _)
    rw [hpb] at this
    exact this
  | d + 1, _, _, _, n, .multi f t t2 l cs ts hm ht hb hne hl hno hp, hg, hn => by
    have hkids : ∀ q ∈ l, goodM d q := by
      rcases hg with ⟨_, h2⟩ | ⟨_, _, _, h4⟩
      · exact absurd h2 hne
      · exact h4
    have hc : countM (.mk f t [] l) = 1 + countsM l := rfl
    rw [hc] at hn ⊢
    have hall : ∀ (l cs : List TreeM) (ts : List TextH), LaysT l cs ts → (∀ q ∈ l, goodM d q) → ∀ n, n + countsM l ≤ 16 → allM (partM d) ts n = (cs, n + countsM l, 0) := by
      intro l
      induction l with
      | nil =>
        intro cs ts hl _ n _
        cases hl
        rfl
      | cons q l ih =>
        intro cs ts hl hk n hn
        cases hl with
        | cons h hl =>
          unfold countsM at hn ⊢
          have h1 := lay_parse d q _ _ n h (hk q (List.mem_cons_self ..)) (by omega)
          have h2 := ih _ _ hl (fun q hq => hk q (List.mem_cons_of_mem _ hq)) (n + countM q) (by omega)
          unfold allM
          rw [h1]
          simp only
          rw [if_pos trivial, h2, Nat.add_assoc]
    have hts : ts ≠ [] := fun e => by
      have := (lays_len hl).2
      rw [e] at this
      exact hne (List.eq_nil_of_length_eq_zero this.symm)
    have htyp := typ_laid f ht ([] : List FieldH)
    have hcl := border_clean htyp
    have hdiv := div_text hcl.1 hcl.2 (by simp) hts hno
    have hpb := head_back hp (divTextM (45 :: 45 :: borderM t2) ts)
    have hA := hall l cs ts hl hkids (n + 1) (by omega)
    show stepM (some (partM d)) _ n = _
    unfold stepM
    rw [if_neg (by omega), hpb]
    simp only
    rw [if_neg (by simp), htyp]
    simp only
    rw [if_neg (by simp [hm]), if_neg (by rw [mult_cod]; simp [hb]), hdiv]
    simp only
    rw [hA]
    simp only
    rw [if_pos trivial, Nat.add_assoc]
mutual
theorem lay_bodies : ∀ {p c : TreeM} {s : TextH}, LayT p c s → (leavesM c).map TreeM.body = (leavesM p).map TreeM.body
  | _, _, _, .leaf f t b hm ht hp => rfl
  | _, _, _, .multi f t t2 l cs ts hm ht hb hne hl hno hp => by
    have h1 := lays_bodies hl
    have h2 := (lays_len hl).1
    have hc : cs ≠ [] := fun e => by
      rw [e] at h2
      exact hne (List.eq_nil_of_length_eq_zero h2.symm)
    unfold leavesM
    rw [if_neg (by simpa using hc), if_neg (by simpa using hne)]
    exact h1
theorem lays_bodies : ∀ {l cs : List TreeM} {ts : List TextH}, LaysT l cs ts → (leavessM cs).map TreeM.body = (leavessM l).map TreeM.body
  | _, _, _, .nil => rfl
  | _, _, _, .cons h hl => by
    unfold leavessM
    rw [List.map_append, List.map_append, lay_bodies h, lays_bodies hl]
end
end Go.Proofs.YtjikghndoklajaaGreatDoor
