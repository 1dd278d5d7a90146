/-
  Texts of this proof, put together: M13Q, M13H.
-/
import Derived.Test.YtjikghndoklajaaGreatDoorZ06
namespace Go.Proofs.YtjikghndoklajaaGreatDoor

theorem divn_ne {n : Nat} {mk s : TextH} {x : TextH × TextH} (hx : nextM mk s = some x) {l : List TextH} (h : divN n mk s = some l) : l ≠ [] := by
  match n, h with
  | 0, h => cases h
  | n + 1, h =>
    unfold divN at h
    rw [hx] at h
    obtain ⟨t, r⟩ := x
    rintro rfl
    split at h
    · rename_i e
      cases e
    · cases hd : divN n mk _ with
      | none =>
        rw [hd] at h
        cases h
      | some k =>
        rw [hd] at h
        cases h
    · cases h
theorem div_ne {mk raw : TextH} {l : List TextH} (h : divM mk raw = some l) : l ≠ [] := by
  unfold divM at h
  split at h
  · cases hn : nextM mk (raw.drop mk.length) with
    | none =>
      rw [hn] at h
      cases h
    | some x =>
      rw [hn] at h
      exact divn_ne hn h
  · cases h
theorem div_text {mk : TextH} (h13 : (13 : UInt8) ∉ mk) (h10 : (10 : UInt8) ∉ mk) (hmk : mk ≠ []) {l : List TextH} (hl : l ≠ []) (h : ∀ t ∈ l, ∀ u v, t ≠ u ++ mk ++ v) : divM mk (divTextM mk l) = some l := by
  obtain ⟨r, hr⟩ := divtext_mk mk l
  have hlen : ∀ k : List TextH, k.length < (divTextM mk k).length + 1 := by
    intro k
    induction k with
    | nil => simp
    | cons t k ih =>
      unfold divTextM
      simp only [List.length_append, List.length_cons] at ih ⊢
      omega
  have hd := divn_text h13 h10 hmk l ((divTextM mk l).length + 1) h (hlen l) r hr
  have hne : nextM mk r ≠ none := fun e => by
    have hd2 := hd
    unfold divN at hd2
    rw [e] at hd2
    simp only at hd2
    split at hd2
    · exact hl (Option.some.inj hd2).symm
    · cases hd2
  unfold divM
  rw [if_pos (show mk.isPrefixOf (divTextM mk l) = true by rw [hr]; exact List.isPrefixOf_iff_prefix.2 ⟨r, rfl⟩)]
  have e : (divTextM mk l).drop mk.length = r := by
    rw [hr]
    exact List.drop_left
  rw [e]
  cases hx : nextM mk r with
  | none => exact absurd hx hne
  | some x => exact hd

theorem step_ok {sub : Option (TextH → Nat → TreeM × Nat × Int)} {s : TextH} {n m : Nat} {p : TreeM} (h : stepM sub s n = (p, m, 0)) :
    n < 16 ∧ (parseH s).2 = 0 ∧ ∃ t, typM (parseH s).1.1 = some t ∧
      ((t.1 ≠ multiM ∧ m = n + 1 ∧ ∃ b, leafM (codM (parseH s).1.1) (parseH s).1.2 = some b ∧ p = .mk (parseH s).1.1 t b []) ∨
       (t.1 = multiM ∧ ∃ l f, divM (45 :: 45 :: borderM t) (parseH s).1.2 = some l ∧ sub = some f ∧ (allM f l (n + 1)).2.2 = 0 ∧ p = .mk (parseH s).1.1 t [] (allM f l (n + 1)).1 ∧ m = (allM f l (n + 1)).2.1)) := by
  unfold stepM at h
  split at h
  · cases h
  rename_i h16
  split at h
  · rename_i he
    exact absurd (Prod.mk.inj (Prod.mk.inj h).2).2 he
  rename_i he
  have he : (parseH s).2 = 0 := Decidable.not_not.1 he
  refine ⟨by omega, he, ?_⟩
  cases ht : typM (parseH s).1.1 with
  | none =>
    rw [ht] at h
    cases h
  | some t =>
    rw [ht] at h
    refine ⟨t, rfl, ?_⟩
    simp only at h
    split at h
    · rename_i hm
      left
      cases hb : leafM (codM (parseH s).1.1) (parseH s).1.2 with
      | none =>
        rw [hb] at h
        cases h
      | some b =>
        rw [hb] at h
        obtain ⟨e1, e2⟩ := Prod.mk.inj h
        exact ⟨hm, (Prod.mk.inj e2).1.symm, b, rfl, e1.symm⟩
    · rename_i hm
      have hm : t.1 = multiM := Decidable.not_not.1 hm
      right
      refine ⟨hm, ?_⟩
      split at h
      · cases h
      cases hd : divM (45 :: 45 :: borderM t) (parseH s).1.2 with
      | none =>
        rw [hd] at h
        cases h
      | some l =>
        rw [hd] at h
        cases sub with
        | none => cases h
        | some f =>
          simp only at h
          split at h
          · rename_i ha
            obtain ⟨e1, e2⟩ := Prod.mk.inj h
            exact ⟨l, f, rfl, rfl, ha, e1.symm, (Prod.mk.inj e2).1.symm⟩
          · rename_i ha
            exact absurd (Prod.mk.inj (Prod.mk.inj h).2).2 ha
theorem step_leaf {sub : Option (TextH → Nat → TreeM × Nat × Int)} {s : TextH} {n : Nat} {t : TypeC} {b : TextH} (hn : n < 16) (he : (parseH s).2 = 0) (ht : typM (parseH s).1.1 = some t) (hm : t.1 ≠ multiM)
    (hb : leafM (codM (parseH s).1.1) (parseH s).1.2 = some b) : stepM sub s n = (.mk (parseH s).1.1 t b [], n + 1, 0) := by
  unfold stepM
  rw [if_neg (by omega), if_neg (by rw [he]; simp), ht]
  simp only
  rw [if_pos hm, hb]
theorem all_len {f : TextH → Nat → TreeM × Nat × Int} : ∀ (l : List TextH) (n : Nat), (allM f l n).2.2 = 0 → (allM f l n).1.length = l.length
  | [], n, _ => rfl
  | t :: l, n, h => by
    unfold allM at h ⊢
    split at h
    · rename_i h1
      rw [if_pos h1]
      simp only [List.length_cons]
      rw [all_len l _ h]
    · rename_i h1
      exact absurd h h1
theorem part_step (d : Nat) : ∃ sub, partM d = stepM sub := by
  match d with
  | 0 => exact ⟨_, rfl⟩
  | d + 1 => exact ⟨_, rfl⟩
def goodM : Nat → TreeM → Prop
  | 0, p => p.typ.1 ≠ multiM ∧ p.parts = []
  | d + 1, p => (p.typ.1 ≠ multiM ∧ p.parts = []) ∨ (p.typ.1 = multiM ∧ p.parts ≠ [] ∧ p.body = [] ∧ ∀ q ∈ p.parts, goodM d q)
theorem all_good {d : Nat} (hd : ∀ s n p m, partM d s n = (p, m, 0) → n < m ∧ m ≤ 16 ∧ countM p = m - n ∧ goodM d p) : ∀ (l : List TextH) (n : Nat), n ≤ 16 → (allM (partM d) l n).2.2 = 0 →
    n ≤ (allM (partM d) l n).2.1 ∧ (allM (partM d) l n).2.1 ≤ 16 ∧ countsM (allM (partM d) l n).1 = (allM (partM d) l n).2.1 - n ∧ ∀ q ∈ (allM (partM d) l n).1, goodM d q
  | [], n, hn, _ => by
    refine ⟨Nat.le_refl _, hn, ?_, fun q hq => by cases hq⟩
    show 0 = n - n
    omega
  | t :: l, n, hn, h => by
    obtain ⟨⟨p, m, e⟩, hp⟩ : ∃ x, partM d t n = x := ⟨_, rfl⟩
    unfold allM at h ⊢
    rw [hp] at h ⊢
    simp only at h ⊢
    split at h
    · rename_i h1
      subst h1
      obtain ⟨g1, g2, g3, g4⟩ := hd t n p m hp
      obtain ⟨k1, k2, k3, k4⟩ := all_good hd l m g2 h
      rw [if_pos rfl]
      refine ⟨by simp only; omega, k2, ?_, ?_⟩
      · show countM p + countsM _ = _
        rw [g3, k3]
        simp only
        omega
      · intro q hq
        rcases List.mem_cons.1 hq with rfl | hq
        · exact g4
        · exact k4 q hq
    · rename_i h1
      exact absurd h h1
theorem part_good : ∀ (d : Nat) (s : TextH) (n : Nat) (p : TreeM) (m : Nat), partM d s n = (p, m, 0) → n < m ∧ m ≤ 16 ∧ countM p = m - n ∧ goodM d p
  | 0, s, n, p, m, h => by
    obtain ⟨hn, he, t, ht, ⟨hm, rfl, b, hb, rfl⟩ | ⟨hm, l, f, hd, hf, _⟩⟩ := step_ok (sub := none) h
    · refine ⟨by omega, by omega, ?_, hm, rfl⟩
      show 1 + 0 = _
      omega
    · cases hf
  | d + 1, s, n, p, m, h => by
    obtain ⟨hn, he, t, ht, ⟨hm, rfl, b, hb, rfl⟩ | ⟨hm, l, f, hd, hf, ha, rfl, rfl⟩⟩ := step_ok (sub := some (partM d)) h
    · refine ⟨by omega, by omega, ?_, .inl ⟨hm, rfl⟩⟩
      show 1 + 0 = _
      omega
    · obtain rfl := Option.some.inj hf
      obtain ⟨k1, k2, k3, k4⟩ := all_good (part_good d) l (n + 1) (by omega) ha
      refine ⟨by omega, k2, ?_, .inr ⟨hm, fun e => ?_, rfl, k4⟩⟩
      · show 1 + countsM _ = _
        rw [k3]
        omega
      · have := all_len l (n + 1) ha
        rw [show (allM (partM d) l (n + 1)).1 = [] from e] at this
        exact absurd (List.length_eq_zero_iff.1 this.symm) (div_ne hd)
theorem parse_good {s : TextH} (h : (parseM s).2 = 0) : 1 ≤ countM (parseM s).1 ∧ countM (parseM s).1 ≤ 16 ∧ goodM 4 (parseM s).1 := by
  unfold parseM at h ⊢
  split at h
  · cases h
  · rename_i h1
    rw [if_neg h1]
    obtain ⟨⟨p, m, e⟩, hp⟩ : ∃ x, partM 4 s 0 = x := ⟨_, rfl⟩
    rw [hp] at h ⊢
    have h : e = 0 := h
    subst h
    obtain ⟨g1, g2, g3, g4⟩ := part_good 4 s 0 p m hp
    exact ⟨by show 1 ≤ countM p; omega, by show countM p ≤ 16; omega, g4⟩
end Go.Proofs.YtjikghndoklajaaGreatDoor
namespace Go.Proofs.YtjikghndoklajaaGreatDoor

theorem good_parts {s : TextH} (h : (parseH s).2 = 0) : ∃ ls rest fs, topH (s.length + 1) s = some (ls, rest) ∧ longH ls = false ∧ goesH (ls.headD []) = false ∧ fieldsH (joinH ls) = some fs ∧ fs.length ≤ 64 ∧ parseH s = ((fs, rest), 0) := by
  unfold parseH at h ⊢
  cases ht : topH (s.length + 1) s with
  | none =>
    rw [ht] at h
    cases h
  | some x =>
    obtain ⟨ls, rest⟩ := x
    rw [ht] at h
    simp only at h ⊢
    split at h
    · cases h
    rename_i h1
    split at h
    · cases h
    rename_i h2
    cases hf : fieldsH (joinH ls) with
    | none =>
      rw [hf] at h
      cases h
    | some fs =>
      rw [hf] at h
      simp only at h
      split at h
      · cases h
      · rename_i h3
        refine ⟨ls, rest, fs, rfl, by simpa using h1, by simpa using h2, hf, by omega, ?_⟩
        rw [if_neg h1, if_neg h2]
        simp only
        rw [if_neg h3]
theorem get_more {l fs : List FieldH} {n : TextH} (h : ∀ f ∈ l, sameH f.1 n = false) : getH (l ++ fs) n = getH fs n := by
  unfold getH
  rw [List.find?_append, List.find?_eq_none.2 (fun f hf e => by rw [h f hf] at e; cases e)]
  rfl
theorem part_parts {s : TextH} (h : (parseM s).2 = 0) : s.length ≤ 16384 ∧ ∃ p m, partM 4 s 0 = (p, m, 0) ∧ parseM s = (p, 0) ∧ (parseH s).2 = 0 := by
  unfold parseM at h ⊢
  split at h
  · cases h
  · rename_i h1
    obtain ⟨⟨p, m, e⟩, hp⟩ : ∃ x, partM 4 s 0 = x := ⟨_, rfl⟩
    rw [hp] at h ⊢
    have h : e = 0 := h
    subst h
    rw [if_neg h1]
    refine ⟨by omega, p, m, rfl, rfl, ?_⟩
    obtain ⟨sub, hs⟩ := part_step 4
    rw [hs] at hp
    exact (step_ok hp).2.1
end Go.Proofs.YtjikghndoklajaaGreatDoor
