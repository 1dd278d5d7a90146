/-
  Texts of this proof, put together: S16Q, RtF, S16R.
-/
import Derived.Test.YtgpdplffljidbaaGreatDoorZ31
import Derived.Test.YtgpdplffljidbaaGreatDoorZ07
namespace Go.Proofs.YtgpdplffljidbaaGreatDoor

section
variable {ps : List PairP} {l : List ItemS} {top : Nat} {lt : Option (List UInt8)}
theorem key_ne {n : Nat} (h : n ≤ 99999999) : keyS n ≠ [113] := fun e => by
  have := congrArg List.length e
  rw [key_len h] at this
  cases this
theorem queue_put (h : QueueB ps l top lt) {x : ItemS} {n : Nat} (hx : rightS x = true) (hi : x.id = (n : Int)) (hn : top < n) (hm : n ≤ 99999999) : QueueB (doneP ⟨keyS n, textS x, false⟩ true ps) (l ++ [x]) n lt := by
  have hne : ∀ y ∈ l, y.id.toNat ≠ n ∧ y.id.toNat ≤ 99999999 := fun y hy => by
    obtain ⟨_, k, e, _, k2⟩ := h.ok y hy
    rw [e, Int.toNat_natCast]
    omega
  refine ⟨done_sorted _ _ _ h.sorted, ?_, ?_, hm, ?_, ?_, ?_, ?_⟩
  · rw [List.pairwise_append]
    refine ⟨h.rise, List.pairwise_singleton _ _, fun y hy z hz => ?_⟩
    rw [List.mem_singleton.1 hz, hi]
    obtain ⟨_, k, e, _, k2⟩ := h.ok y hy
    rw [e]
    omega
  · intro y hy
    rcases List.mem_append.1 hy with hy | hy
    · obtain ⟨h1, k, e, k1, k2⟩ := h.ok y hy
      exact ⟨h1, k, e, k1, by omega⟩
    · rw [List.mem_singleton.1 hy]
      exact ⟨hx, n, hi, by omega, Nat.le_refl _⟩
  · intro y hy
    rcases List.mem_append.1 hy with hy | hy
    · rw [find_done_other _ (fun e => (hne y hy).1 (key_inj (hne y hy).2 hm e))]
      exact h.item y hy
    · rw [List.mem_singleton.1 hy, hi, Int.toNat_natCast]
      exact find_done_self ⟨keyS n, textS x, false⟩ ps h.sorted
  · intro k hk hno
    have hkn : k ≠ n := fun e => hno x (List.mem_append_right _ (List.mem_singleton.2 rfl)) (by rw [hi, e])
    rw [find_done_other _ (fun e => hkn (key_inj hk hm e))]
    exact h.none k hk fun y hy => hno y (List.mem_append_left _ hy)
  · intro p hp h2
    rcases done_mem _ _ _ _ hp with ⟨rfl, _⟩ | ⟨hp, _⟩
    · exact ⟨x, List.mem_append_right _ (List.mem_singleton.2 rfl), by rw [hi, Int.toNat_natCast]⟩
    · obtain ⟨y, hy, e⟩ := h.keys p hp h2
      exact ⟨y, List.mem_append_left _ hy, e⟩
  · rw [find_done_other _ (fun e => key_ne hm e.symm)]
    exact h.last
theorem queue_last (h : QueueB ps l top lt) (v : List UInt8) : QueueB (doneP ⟨[113], v, false⟩ true ps) l top (some v) := by
  refine ⟨done_sorted _ _ _ h.sorted, h.rise, h.ok, h.few, fun y hy => ?_, fun k hk hno => ?_, fun p hp h2 => ?_, find_done_self ⟨[113], v, false⟩ ps h.sorted⟩
  · obtain ⟨_, k, e, _, k2⟩ := h.ok y hy
    have := h.few
    rw [find_done_other _ (key_ne (by rw [e, Int.toNat_natCast]; omega))]
    exact h.item y hy
  · rw [find_done_other _ (key_ne hk)]
    exact h.none k hk hno
  · rcases done_mem _ _ _ _ hp with ⟨rfl, _⟩ | ⟨hp, _⟩
    · cases h2
    · exact h.keys p hp h2
theorem queue_drop (h : QueueB ps l top lt) {n : Nat} (hm : n ≤ 99999999) (v : List UInt8) : QueueB (doneP ⟨keyS n, v, true⟩ false ps) (l.filter fun y => !(y.id == (n : Int))) top lt := by
  have hk8 : ∀ y ∈ l, y.id.toNat ≤ 99999999 ∧ (y.id.toNat : Int) = y.id := fun y hy => by
    obtain ⟨_, k, e, _, k2⟩ := h.ok y hy
    have := h.few
    rw [e, Int.toNat_natCast]
    exact ⟨by omega, rfl⟩
  have hmem : ∀ y, y ∈ (l.filter fun y => !(y.id == (n : Int))) ↔ y ∈ l ∧ y.id ≠ (n : Int) := fun y => by
    rw [List.mem_filter]
    simp
  refine ⟨done_sorted _ _ _ h.sorted, h.rise.filter _, fun y hy => h.ok y ((hmem y).1 hy).1, h.few, fun y hy => ?_, fun k hk hno => ?_, fun p hp h2 => ?_, ?_⟩
  · obtain ⟨hy, hne⟩ := (hmem y).1 hy
    rw [find_done_other _ (fun e => hne (by rw [← (hk8 y hy).2, key_inj (hk8 y hy).1 hm e]))]
    exact h.item y hy
  · by_cases e : k = n
    · subst e
      exact find_done_gone ⟨keyS k, v, true⟩ ps
    · rw [find_done_other _ (fun e2 => e (key_inj hk hm e2))]
      exact h.none k hk fun y hy hyk => hno y ((hmem y).2 ⟨hy, fun e2 => e (by rw [hyk] at e2; omega)⟩) hyk
  · rcases done_mem _ _ _ _ hp with ⟨_, ht⟩ | ⟨hp, hpk⟩
    · cases ht
    · obtain ⟨y, hy, e⟩ := h.keys p hp h2
      refine ⟨y, (hmem y).2 ⟨hy, fun e2 => hpk ?_⟩, e⟩
      show p.1 = keyS n
      rw [e, e2, Int.toNat_natCast]
  · rw [find_done_other _ (fun e => key_ne hm e.symm)]
    exact h.last
theorem queue_again (h : QueueB ps l top lt) {x x' : ItemS} {n : Nat} (hx : x ∈ l) (hi : x.id = (n : Int)) (hx' : rightS x' = true) (hi' : x'.id = (n : Int)) : QueueB (doneP ⟨keyS n, textS x', false⟩ true ps) (l.map fun y => if y.id = (n : Int) then x' else y) top lt := by
  have hk8 : ∀ y ∈ l, y.id.toNat ≤ 99999999 ∧ (y.id.toNat : Int) = y.id := fun y hy => by
    obtain ⟨_, k, e, _, k2⟩ := h.ok y hy
    have := h.few
    rw [e, Int.toNat_natCast]
    exact ⟨by omega, rfl⟩
  obtain ⟨_, n0, e0, n1, n2⟩ := h.ok x hx
  have hnn : n = n0 := by rw [hi] at e0; omega
  have hfw := h.few
  have hm : n ≤ 99999999 := by omega
  have hid : ∀ y : ItemS, (if y.id = (n : Int) then x' else y).id = y.id := fun y => by
    by_cases e : y.id = (n : Int)
    · rw [if_pos e, hi', e]
    · rw [if_neg e]
  have hmem : ∀ y, y ∈ (l.map fun y => if y.id = (n : Int) then x' else y) → (y = x') ∨ (y ∈ l ∧ y.id ≠ (n : Int)) := fun y hy => by
    obtain ⟨z, hz, rfl⟩ := List.mem_map.1 hy
    by_cases e : z.id = (n : Int)
    · rw [if_pos e]
      exact .inl rfl
    · rw [if_neg e]
      exact .inr ⟨hz, e⟩
  refine ⟨done_sorted _ _ _ h.sorted, ?_, fun y hy => ?_, h.few, fun y hy => ?_, fun k hk hno => ?_, fun p hp h2 => ?_, ?_⟩
  · rw [List.pairwise_map]
    refine h.rise.imp ?_
    intro a b hab
    rw [hid, hid]
    exact hab
  · rcases hmem y hy with rfl | ⟨hy, _⟩
    · exact ⟨hx', n, hi', by omega, by omega⟩
    · exact h.ok y hy
  · rcases hmem y hy with rfl | ⟨hy, hne⟩
    · rw [hi', Int.toNat_natCast]
      exact find_done_self ⟨keyS n, textS y, false⟩ ps h.sorted
    · rw [find_done_other _ (fun e => hne (by rw [← (hk8 y hy).2, key_inj (hk8 y hy).1 hm e]))]
      exact h.item y hy
  · have hkn : k ≠ n := fun e => hno x' (List.mem_map.2 ⟨x, hx, by rw [if_pos hi]⟩) (by rw [hi', e])
    rw [find_done_other _ (fun e => hkn (key_inj hk hm e))]
    exact h.none k hk fun y hy hyk => hno (if y.id = (n : Int) then x' else y) (List.mem_map.2 ⟨y, hy, rfl⟩) (by rw [hid, hyk])
  · rcases done_mem _ _ _ _ hp with ⟨rfl, _⟩ | ⟨hp, hpk⟩
    · exact ⟨x', List.mem_map.2 ⟨x, hx, by rw [if_pos hi]⟩, by rw [hi', Int.toNat_natCast]⟩
    · obtain ⟨y, hy, e⟩ := h.keys p hp h2
      have hne : ¬ y.id = (n : Int) := fun e2 => hpk (by
        show p.1 = keyS n
        rw [e, e2, Int.toNat_natCast])
      exact ⟨y, List.mem_map.2 ⟨y, hy, by rw [if_neg hne]⟩, e⟩
  · rw [find_done_other _ (fun e => key_ne hm e.symm)]
    exact h.last
end
def nextS : Nat → List ItemS → List ItemS
  | _, [] => []
  | k, x :: l => { x with id := ((k + 1 : Nat) : Int) } :: nextS (k + 1) l
theorem next_len : ∀ (l : List ItemS) (k : Nat), (nextS k l).length = l.length
  | [], _ => rfl
  | _ :: l, k => by
    unfold nextS
    rw [List.length_cons, List.length_cons, next_len l]
def putsS (l : List ItemS) : List Ch := l.map fun x => ⟨keyS x.id.toNat, textS x, false⟩
def addS (last : Nat) (l : List ItemS) : List Ch := if l = [] then [] else putsS (nextS last l) ++ [⟨[113], Lib.decDigits (last + l.length), false⟩]
theorem text_id (x : ItemS) (i : Int) : textS { x with id := i } = textS x := rfl
theorem queue_puts : ∀ (xs : List ItemS) {ps : List PairP} {l : List ItemS} {top : Nat} {lt : Option (List UInt8)}, QueueB ps l top lt → (∀ x ∈ xs, rightS x = true) → top + xs.length ≤ 99999999 → QueueB (behindP ps (putsS (nextS top xs))) (l ++ nextS top xs) (top + xs.length) lt
  | [], ps, l, top, lt, h, _, _ => by
    unfold nextS
    rw [List.append_nil]
    exact h
  | x :: xs, ps, l, top, lt, h, hr, hm => by
    rw [List.length_cons] at hm
    have h1 := queue_put h (x := { x with id := ((top + 1 : Nat) : Int) }) (n := top + 1) (hr x (List.mem_cons_self ..)) rfl (by omega) (by omega)
    have h2 := queue_puts xs h1 (fun y hy => hr y (List.mem_cons_of_mem _ hy)) (by omega)
    rw [List.append_assoc, List.singleton_append] at h2
    rw [show top + (x :: xs).length = top + 1 + xs.length by rw [List.length_cons]; omega]
    exact h2
theorem queue_add {ps : List PairP} {l : List ItemS} {last : Nat} (h : QueueP ps l last) (xs : List ItemS) (hr : ∀ x ∈ xs, rightS x = true) (hm : last + xs.length ≤ 99999999) : QueueP (behindP ps (addS last xs)) (l ++ nextS last xs) (last + xs.length) := by
  unfold addS
  by_cases e : xs = []
  · subst e
    rw [if_pos rfl]
    unfold nextS
    rw [List.append_nil]
    exact h
  · rw [if_neg e, behind_append]
    have h1 := queue_last (queue_puts xs h hr hm) (Lib.decDigits (last + xs.length))
    have hl : xs.length ≠ 0 := fun e2 => e (List.eq_nil_of_length_eq_zero e2)
    unfold QueueP
    rw [if_neg (by omega)]
    exact h1
end Go.Proofs.YtgpdplffljidbaaGreatDoor
namespace Go.Proofs.YtgpdplffljidbaaGreatDoor

theorem fail_cases (b t d now : Int) : (readyT b t d now = false ∧ ∃ c, c ≠ 0 ∧ failT b t d now = ((0, 0, 0), false, c)) ∨
    (readyT b t d now = true ∧ (failT b t d now = ((0, 0, 0), false, 1) ∨ failT b t d now = ((0, 0, 0), true, 0) ∨
      (failT b t d now = ((b, t + 1, now + waitT t), false, 0) ∧ rightT b (t + 1) (now + waitT t) = true ∧ rightT b t d = true ∧ t ≠ 4 ∧ timeT now = true ∧ now + waitT t ≤ 1099511627776))) := by
  unfold readyT
  cases hr : rightT b t d with
  | false =>
    refine .inl ⟨rfl, 1, by decide, ?_⟩
    unfold failT
    rw [if_pos (.inl hr)]
  | true =>
    obtain ⟨⟨p1, p2⟩, ⟨p3, p4⟩, p5, p6, p7⟩ := right_of hr
    by_cases hd : d ≤ now
    · rw [decide_eq_true hd]
      refine .inr ⟨rfl, ?_⟩
      unfold failT
      rw [hr]
      cases hn : timeT now with
      | false => exact .inl (by rw [if_pos (.inr rfl)])
      | true =>
        rw [if_neg (by simp), if_neg (by omega)]
        obtain ⟨n1, n2⟩ := time_of hn
        by_cases hc : t = 4 ∨ 40 < now - b ∨ 1099511627776 < now + waitT t
        · rw [if_pos hc]
          exact .inr (.inl rfl)
        · rw [if_neg hc]
          refine .inr (.inr ⟨rfl, ?_, rfl, by omega, rfl, by omega⟩)
          have hw := wait_few p6 p7
          unfold rightT timeT
          simp only [Bool.and_eq_true, decide_eq_true_eq]
          omega
    · rw [decide_eq_false hd]
      refine .inl ⟨rfl, ?_⟩
      unfold failT
      rw [hr]
      cases hn : timeT now with
      | false => exact ⟨1, by decide, by rw [if_pos (.inr rfl)]⟩
      | true => exact ⟨9, by decide, by rw [if_neg (by simp), if_pos (by omega)]⟩
theorem wait_twice {t : Int} (h0 : 0 ≤ t) (h1 : t < 4) : waitT (t + 1) = 2 * waitT t := by
  rcases (show t = 0 ∨ t = 1 ∨ t = 2 ∨ t = 3 by omega) with rfl | rfl | rfl | rfl <;> decide
end Go.Proofs.YtgpdplffljidbaaGreatDoor
namespace Go.Proofs.YtgpdplffljidbaaGreatDoor

theorem commit_room {h used : Nat} {ps : List PairP} {l : List Ch} (hf : ∀ c ∈ l, c.fits) (hne : l ≠ []) (hr : used + secN (printL l).length ≤ h) : commitP h (used, ps) l = ((used + secN (printL l).length, behindP ps l), 0) := by
  unfold commitP
  rw [if_neg (fun hh => hh hf), if_neg hne, if_pos hr]
theorem commit_nothing (h used : Nat) (ps : List PairP) : commitP h (used, ps) [] = ((used, ps), 0) := by
  unfold commitP
  rw [if_neg (fun hh => hh (fun c hc => by cases hc)), if_pos rfl]
theorem commit_ends {h used : Nat} {ps : List PairP} {l : List Ch} (hf : ∀ c ∈ l, c.fits) : ((commitP h (used, ps) l).2 = 0 ∧ (commitP h (used, ps) l).1.2 = behindP ps l) ∨ (commitP h (used, ps) l).2 ≠ 0 := by
  unfold commitP
  rw [if_neg (fun hh => hh hf)]
  by_cases h0 : l = []
  · rw [if_pos h0, h0]
    exact .inl ⟨rfl, rfl⟩
  · rw [if_neg h0]
    split
    · exact .inl ⟨rfl, rfl⟩
    · split
      · exact .inl ⟨rfl, rfl⟩
      · refine .inr ?_
        show (5 : Int) ≠ 0
        decide
def bytesS (l : List ItemS) : Nat := (l.map fun x => x.fr.length + x.to.length + x.tx.length).sum
theorem print_cons (c : Ch) (l : List Ch) : (printL (c :: l)).length = 5 + c.key.length + c.says.length + (printL l).length := by
  have e : printL (c :: l) = printC c ++ printL l := by unfold printL; rw [List.flatMap_cons]
  rw [e, List.length_append, printC_len]
theorem print_app (a b : List Ch) : (printL (a ++ b)).length = (printL a).length + (printL b).length := by
  unfold printL
  rw [List.flatMap_append, List.length_append]
theorem says_le (c : Ch) : c.says.length ≤ c.val.length := by
  unfold Ch.says
  split
  · simp
  · exact Nat.le_refl _
theorem right_sizes {x : ItemS} (h : rightS x = true) : x.fr.length ≤ 255 ∧ x.to.length ≤ 255 ∧ x.tx.length ≤ 16384 ∧ rightT x.b x.t x.d = true := by
  unfold rightS at h
  simp only [Bool.and_eq_true, decide_eq_true_eq] at h
  exact h
theorem puts_size : ∀ (l : List ItemS) (top : Nat), top + l.length ≤ 99999999 → (printL (putsS (nextS top l))).length ≤ 45 * l.length + bytesS l
  | [], _, _ => by
    unfold nextS putsS printL
    simp [bytesS]
  | x :: l, top, h => by
    rw [List.length_cons] at h
    have ih := puts_size l (top + 1) (by omega)
    unfold nextS
    show (printL (⟨keyS (((top + 1 : Nat) : Int)).toNat, textS { x with id := ((top + 1 : Nat) : Int) }, false⟩ :: putsS (nextS (top + 1) l))).length ≤ _
    rw [print_cons, text_id, Int.toNat_natCast]
    have h1 := says_le ⟨keyS (top + 1), textS x, false⟩
    have h2 : (⟨keyS (top + 1), textS x, false⟩ : Ch).val.length = 30 + x.fr.length + x.to.length + x.tx.length := text_lenS x
    have h3 : (⟨keyS (top + 1), textS x, false⟩ : Ch).key.length = 10 := key_len (by omega)
    rw [show bytesS (x :: l) = x.fr.length + x.to.length + x.tx.length + bytesS l by simp [bytesS], List.length_cons]
    omega
theorem add_size (l : List ItemS) (last : Nat) (h : last + l.length ≤ 99999999) : (printL (addS last l)).length ≤ 14 + 45 * l.length + bytesS l := by
  unfold addS
  by_cases e : l = []
  · rw [if_pos e]
    show (0 : Nat) ≤ _
    omega
  · rw [if_neg e, print_app, print_cons]
    have h1 := puts_size l last h
    have h2 := says_le ⟨[113], Lib.decDigits (last + l.length), false⟩
    have h3 : (⟨[113], Lib.decDigits (last + l.length), false⟩ : Ch).val.length ≤ 8 := by
      show (Lib.decDigits (last + l.length)).length ≤ 8
      rw [Lib.decDigits_length]
      exact digits_8 h
    have h4 : (⟨[113], Lib.decDigits (last + l.length), false⟩ : Ch).key.length = 1 := rfl
    have h5 : (printL []).length = 0 := rfl
    omega
theorem put_fits {x : ItemS} (hr : rightS x = true) {n : Nat} (hn : n ≤ 99999999) : (⟨keyS n, textS x, false⟩ : Ch).fits := by
  obtain ⟨h1, h2, h3, _⟩ := right_sizes hr
  refine ⟨?_, ?_⟩
  · show (keyS n).length ≤ _
    rw [key_len hn]
    omega
  · show (textS x).length ≤ _
    rw [text_lenS]
    omega
theorem puts_fit : ∀ (l : List ItemS) (top : Nat), top + l.length ≤ 99999999 → (∀ x ∈ l, rightS x = true) → ∀ c ∈ putsS (nextS top l), c.fits
  | [], _, _, _ => by
    unfold nextS putsS
    intro c hc
    cases hc
  | x :: l, top, h, hr => by
    rw [List.length_cons] at h
    have ih := puts_fit l (top + 1) (by omega) (fun y hy => hr y (List.mem_cons_of_mem _ hy))
    unfold nextS
    intro c hc
    rcases List.mem_cons.1 hc with rfl | hc
    · show (⟨keyS (((top + 1 : Nat) : Int)).toNat, textS { x with id := ((top + 1 : Nat) : Int) }, false⟩ : Ch).fits
      rw [Int.toNat_natCast]
      exact put_fits (x := { x with id := ((top + 1 : Nat) : Int) }) (hr x (List.mem_cons_self ..)) (by omega)
    · exact ih c hc
theorem add_fits {l : List ItemS} {last : Nat} (h : last + l.length ≤ 99999999) (hr : ∀ x ∈ l, rightS x = true) : ∀ c ∈ addS last l, c.fits := by
  unfold addS
  by_cases e : l = []
  · rw [if_pos e]
    intro c hc
    cases hc
  · rw [if_neg e]
    intro c hc
    rcases List.mem_append.1 hc with hc | hc
    · exact puts_fit l last h hr c hc
    · rw [List.mem_singleton.1 hc]
      refine ⟨by show (1 : Nat) ≤ _; omega, ?_⟩
      show (Lib.decDigits (last + l.length)).length ≤ _
      rw [Lib.decDigits_length]
      have := digits_8 h
      omega
theorem add_len (l : List ItemS) (last : Nat) : (addS last l).length ≤ l.length + 1 := by
  unfold addS
  by_cases e : l = []
  · rw [if_pos e]
    show (0 : Nat) ≤ _
    omega
  · rw [if_neg e, List.length_append]
    unfold putsS
    rw [List.length_map, next_len]
    exact Nat.le_refl _
theorem add_ne {l : List ItemS} {last : Nat} (h : l ≠ []) : addS last l ≠ [] := by
  unfold addS
  rw [if_neg h]
  simp
end Go.Proofs.YtgpdplffljidbaaGreatDoor
