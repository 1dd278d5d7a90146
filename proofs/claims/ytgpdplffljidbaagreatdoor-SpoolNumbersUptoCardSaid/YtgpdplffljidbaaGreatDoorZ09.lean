/-
  Texts of this proof, put together: W8L, W8M.
-/
import Derived.Test.YtgpdplffljidbaaGreatDoorZ02
import Derived.Test.YtgpdplffljidbaaGreatDoorZ08
namespace Go.Proofs.YtgpdplffljidbaaGreatDoor

def wroteR (ss : List (List UInt8)) (k : Nat) (l : List (List UInt8)) : List (List UInt8) := ss.take k ++ (l ++ ss.drop (k + l.length))
theorem wroteR_nil (ss : List (List UInt8)) (k : Nat) : wroteR ss k [] = ss := List.take_append_drop k ss
theorem wroteR_len {ss : List (List UInt8)} {k : Nat} {l : List (List UInt8)} (h : k + l.length ≤ ss.length) : (wroteR ss k l).length = ss.length := by
  unfold wroteR
  rw [List.length_append, List.length_append, List.length_take, List.length_drop]
  omega
theorem wroteR_set {ss : List (List UInt8)} {k : Nat} {l : List (List UInt8)} (h : k < ss.length) (x : List UInt8) : (wroteR ss (k + 1) l).set k x = wroteR ss k (x :: l) := by
  unfold wroteR
  have ht : (ss.take (k + 1)).length = k + 1 := by rw [List.length_take]; omega
  rw [List.set_append_left _ _ (by omega)]
  have e : (ss.take (k + 1)).set k x = ss.take k ++ [x] := by
    rw [List.take_succ_eq_append_getElem h, List.set_append_right _ _ (by rw [List.length_take]; omega)]
    rw [List.length_take, Nat.min_eq_left (by omega), Nat.sub_self]
    rfl
  rw [e, List.append_assoc, List.singleton_append, List.cons_append, List.length_cons, Nat.add_right_comm, Nat.add_assoc]
abbrev emptyR : List UInt8 := List.replicate 64 0
section
variable (H : List UInt8 → List UInt8)
def usedR (ts : List (List UInt8)) : Nat := (ts.map fun t => secN t.length).sum
theorem used_append (ts us : List (List UInt8)) : usedR (ts ++ us) = usedR ts + usedR us := by
  unfold usedR
  rw [List.map_append, List.sum_append]
theorem row_len (gen : Nat) : ∀ (num : Nat) (ts : List (List UInt8)), (rowR H gen num ts).length = usedR ts
  | _, [] => rfl
  | num, t :: ts => by
    show (laidR H gen num t ++ rowR H gen (num + 1) ts).length = secN t.length + usedR ts
    rw [List.length_append, laid_len, row_len gen (num + 1) ts]
theorem row_append (gen : Nat) (t : List UInt8) : ∀ (num : Nat) (ts : List (List UInt8)), rowR H gen num (ts ++ [t]) = rowR H gen num ts ++ laidR H gen (num + ts.length) t
  | num, [] => List.append_nil _
  | num, s :: ts => by
    show laidR H gen num s ++ rowR H gen (num + 1) (ts ++ [t]) = (laidR H gen num s ++ rowR H gen (num + 1) ts) ++ _
    rw [row_append gen t (num + 1) ts, List.append_assoc, List.length_cons, Nat.add_right_comm, Nat.add_assoc]
def HalfR (ss : List (List UInt8)) (gen : Nat) (ts : List (List UInt8)) : Prop := ∃ more, ss = rowR H gen 0 ts ++ more ∧ readR H more = none
def layR (ss : List (List UInt8)) (used gen num : Nat) (t : List UInt8) : List (List UInt8) :=
  wroteR (if used + secN t.length < ss.length then ss.set (used + secN t.length) emptyR else ss) used (laidR H gen num t)
theorem read_nil : readR H [] = none := rfl
theorem lay_len {ss : List (List UInt8)} {used gen num : Nat} {t : List UInt8} (h : used + secN t.length ≤ ss.length) : (layR H ss used gen num t).length = ss.length := by
  unfold layR
  have e : (if used + secN t.length < ss.length then ss.set (used + secN t.length) emptyR else ss).length = ss.length := by
    split
    · exact List.length_set ..
    · rfl
  rw [wroteR_len (by rw [laid_len, e]; exact h), e]
theorem lay_half {ss more : List (List UInt8)} {gen : Nat} {ts : List (List UInt8)} {t : List UInt8} (hs : ss = rowR H gen 0 ts ++ more) (h : usedR ts + secN t.length ≤ ss.length) :
    HalfR H (layR H ss (usedR ts) gen ts.length t) gen (ts ++ [t]) := by
  have hr := row_len H gen 0 ts
  have hn := laid_len H gen ts.length t
  have e : ∀ ss' : List (List UInt8), ss'.take (usedR ts) = rowR H gen 0 ts → wroteR ss' (usedR ts) (laidR H gen ts.length t) = rowR H gen 0 (ts ++ [t]) ++ ss'.drop (usedR ts + secN t.length) := fun ss' ht => by
    unfold wroteR
    rw [ht, hn, row_append, Nat.zero_add, List.append_assoc]
  have ht0 : ss.take (usedR ts) = rowR H gen 0 ts := by
    rw [hs]
    exact List.take_left' hr
  unfold layR
  by_cases hb : usedR ts + secN t.length < ss.length
  · rw [if_pos hb, e _ (by rw [List.take_set_of_le (by omega)]; exact ht0)]
    refine ⟨_, rfl, ?_⟩
    have hd : (ss.set (usedR ts + secN t.length) emptyR).drop (usedR ts + secN t.length) = emptyR :: ss.drop (usedR ts + secN t.length + 1) := by
      rw [List.set_eq_take_append_cons_drop, if_pos hb, List.drop_left' (by rw [List.length_take]; omega)]
    rw [hd]
    exact read_empty H _
  · rw [if_neg hb, e _ ht0]
    refine ⟨_, rfl, ?_⟩
    rw [List.drop_eq_nil_of_le (by omega)]
    exact read_nil H
theorem lay_first {ss : List (List UInt8)} {gen : Nat} {t : List UInt8} (h : secN t.length ≤ ss.length) : HalfR H (layR H ss 0 gen 0 t) gen [t] :=
  lay_half H (ts := []) (more := ss) rfl (by show 0 + _ ≤ _; omega)
variable (hH : ∀ l, (H l).length = 32)
include hH in
theorem half_head {ss : List (List UInt8)} {gen : Nat} {t : List UInt8} {ts : List (List UInt8)} (hg : gen < 4294967296) (ht : t.length < 4294967296) (h : HalfR H ss gen (t :: ts)) : readR H ss = some (gen, 0, t) := by
  obtain ⟨more, rfl, _⟩ := h
  show readR H ((laidR H gen 0 t ++ rowR H gen 1 ts) ++ more) = _
  rw [List.append_assoc]
  exact read_laid H hH hg (by decide) ht _
include hH in
theorem half_tell {ss : List (List UInt8)} {gen : Nat} {ts : List (List UInt8)} (hg : gen < 4294967296) (ht : ∀ t ∈ ts, t.length < 4294967296) (h : HalfR H ss gen ts) {f : Nat} (hn : ts.length ≤ 4294967296) (hf : ts.length ≤ f) : tellR H gen f 0 ss = ts := by
  obtain ⟨more, rfl, hm⟩ := h
  exact tell_row H hH hg hm ts 0 f ht (by omega) hf
theorem count_used : ∀ ts : List (List UInt8), ts.length ≤ usedR ts
  | [] => Nat.le_refl _
  | t :: ts => by
    have h1 := count_used ts
    have h2 := secN_pos t.length
    show ts.length + 1 ≤ secN t.length + usedR ts
    omega
theorem used_half {ss : List (List UInt8)} {gen : Nat} {ts : List (List UInt8)} (h : HalfR H ss gen ts) : usedR ts ≤ ss.length := by
  obtain ⟨more, rfl, _⟩ := h
  rw [List.length_append, row_len]
  exact Nat.le_add_right ..
def OldR (ss : List (List UInt8)) (gen : Nat) : Prop := readR H ss = none ∨ ∃ g t, readR H ss = some (g, 0, t) ∧ g < gen
theorem old_empty (ss : List (List UInt8)) (gen : Nat) : OldR H (emptyR :: ss) gen := .inl (read_empty H ss)
include hH in
theorem old_half {ss : List (List UInt8)} {g gen : Nat} {t : List UInt8} {ts : List (List UInt8)} (hg : g < 4294967296) (ht : t.length < 4294967296) (h : HalfR H ss g (t :: ts)) (hl : g < gen) : OldR H ss gen :=
  .inr ⟨g, t, half_head H hH hg ht h, hl⟩
end
end Go.Proofs.YtgpdplffljidbaaGreatDoor
namespace Go.Proofs.YtgpdplffljidbaaGreatDoor

section
variable (H : List UInt8 → List UInt8)
structure GoodR (h gen : Nat) (ts : List (List UInt8)) (ps : List PairP) (su so : List (List UInt8)) : Prop where
  lenU : su.length = h
  lenO : so.length = h
  some : ts ≠ []
  half : HalfR H su gen ts
  old : OldR H so gen
  told : toldP ts = Option.some ps
  sorted : SortedP ps
  fit : FitP ps
  room : secN (sizeP ps) ≤ usedR ts
variable {H} {h gen : Nat} {ts : List (List UInt8)} {ps : List PairP} {su so : List (List UInt8)}
theorem GoodR.used (hg : GoodR H h gen ts ps su so) : usedR ts ≤ h := by
  rw [← hg.lenU]
  exact used_half H hg.half
theorem sec_len {n h : Nat} (hn : secN n ≤ h) : n ≤ 64 * h := by
  unfold secN at hn
  omega
theorem mem_used {t : List UInt8} : ∀ {ts : List (List UInt8)}, t ∈ ts → secN t.length ≤ usedR ts
  | s :: ts, ht => by
    show _ ≤ secN s.length + usedR ts
    rcases List.mem_cons.1 ht with rfl | ht
    · exact Nat.le_add_right ..
    · exact Nat.le_trans (mem_used ht) (Nat.le_add_left ..)
theorem GoodR.texts (hg : GoodR H h gen ts ps su so) (hh : h ≤ 1000000) : ∀ t ∈ ts, t.length < 4294967296 := fun t ht => by
  have h1 := sec_len (Nat.le_trans (mem_used ht) hg.used)
  omega
theorem good_make {a b : List (List UInt8)} (ha : a.length = h) (hb : b.length = h) (hp : 2 ≤ h) : GoodR H h 1 [[]] [] (layR H (a.set 0 emptyR) 0 1 0 []) (b.set 0 emptyR) := by
  have hl : (a.set 0 emptyR).length = h := by rw [List.length_set, ha]
  have hs : secN ([] : List UInt8).length = 1 := rfl
  refine ⟨?_, by rw [List.length_set, hb], by simp, lay_first H (by rw [hs, hl]; omega), ?_, rfl, List.Pairwise.nil, fun p hp => (by cases hp), Nat.le_refl _⟩
  · rw [lay_len H (by rw [hs, hl]; omega), hl]
  · cases b with
    | nil => rw [List.length_nil] at hb; omega
    | cons x b => exact old_empty H b 1
theorem GoodR.stays (hg : GoodR H h gen ts ps su so) {l : List Ch} (hl : ∀ c ∈ l, c.fits) (hr : usedR ts + secN (printL l).length ≤ h) :
    GoodR H h gen (ts ++ [printL l]) (behindP ps l) (layR H su (usedR ts) gen ts.length (printL l)) so := by
  obtain ⟨more, hs, _⟩ := hg.half
  have hr' : usedR ts + secN (printL l).length ≤ su.length := by rw [hg.lenU]; exact hr
  refine ⟨(lay_len H hr').trans hg.lenU, hg.lenO, by simp, lay_half H hs hr', hg.old, told_more hg.told hl, behind_sorted l hg.sorted, fit_behind l hg.fit hl, ?_⟩
  have := room_behind l ps
  have h2 := hg.room
  rw [used_append]
  show _ ≤ usedR ts + (secN (printL l).length + 0)
  omega
variable (hH : ∀ l, (H l).length = 32)
include hH in
theorem GoodR.goes (hg : GoodR H h gen ts ps su so) (hn : gen < 4294967295) (hh : h ≤ 1000000) {l : List Ch} (hl : ∀ c ∈ l, c.fits) (hr : secN (sizeP (behindP ps l)) ≤ h) :
    GoodR H h (gen + 1) [printL (wholeP (behindP ps l))] (behindP ps l) (layR H (so.set 0 emptyR) 0 (gen + 1) 0 (printL (wholeP (behindP ps l)))) su := by
  have hs := behind_sorted l hg.sorted
  have hf := fit_behind l hg.fit hl
  have hr' : 0 + secN (printL (wholeP (behindP ps l))).length ≤ (so.set 0 emptyR).length := by
    rw [whole_len, List.length_set, hg.lenO]
    omega
  refine ⟨?_, hg.lenU, by simp, lay_first H (by omega), ?_, told_whole hs hf, hs, hf, ?_⟩
  · rw [lay_len H hr', List.length_set, hg.lenO]
  · have ht := hg.texts hh
    have hhalf := hg.half
    cases hts : ts with
    | nil => exact absurd hts hg.some
    | cons t ts' =>
      rw [hts] at ht hhalf
      exact old_half H hH (by omega) (ht t (List.mem_cons_self ..)) hhalf (by omega)
  · show _ ≤ secN (printL (wholeP (behindP ps l))).length + 0
    rw [whole_len]
    exact Nat.le_refl _
include hH in
theorem GoodR.opens (hg : GoodR H h gen ts ps su so) (hn : gen < 4294967296) (hh : h ≤ 1000000) {f : Nat} (hf : h ≤ f) : (∃ t, readR H su = Option.some (gen, 0, t)) ∧ tellR H gen f 0 su = ts := by
  have ht := hg.texts hh
  have hhalf := hg.half
  have hu := hg.used
  have hc := count_used ts
  refine ⟨?_, half_tell H hH hn ht hhalf (by omega) (by omega)⟩
  cases hts : ts with
  | nil => exact absurd hts hg.some
  | cons t ts' =>
    rw [hts] at ht hhalf
    exact ⟨t, half_head H hH hn (ht t (List.mem_cons_self ..)) hhalf⟩
end
def commitP (h : Nat) (s : Nat × List PairP) (l : List Ch) : (Nat × List PairP) × Int :=
  if ¬ (∀ c ∈ l, c.key.length ≤ 65535 ∧ c.val.length ≤ 65535) then (s, 3)
  else if l = [] then (s, 0)
  else if s.1 + secN (printL l).length ≤ h then ((s.1 + secN (printL l).length, behindP s.2 l), 0)
  else if secN (sizeP (behindP s.2 l)) ≤ h then ((secN (sizeP (behindP s.2 l)), behindP s.2 l), 0)
  else (s, 5)
def keysP (ps : List PairP) (pre : KeyP) : List KeyP := (ps.map (·.1)).filter fun k => k.take pre.length == pre
end Go.Proofs.YtgpdplffljidbaaGreatDoor
