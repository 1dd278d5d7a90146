/-
  Texts of this proof, put together: M13Q, M13H.
-/
import Derived.Test.YtidlpdiephlkhaaGreatDoorZ08
namespace Go.Proofs.YtidlpdiephlkhaaGreatDoor

theorem divn_ne {n : Nat} {mk s : TextH} {x : TextH × TextH} (hx : nextM mk s = some x) {l : List TextH} (h : divN n mk s = some l) : l ≠ [] := by
  match n, h with
  | 0, h => cases h
  | n + 1, h =>
    unfold divN at h
    rw [hx] at h
    obtain ⟨t, r⟩ := x
    rintro rfl
    split at h
    · rename_i e
      cases e
    · cases hd : divN n mk _ with
      | none =>
        rw [hd] at h
        cases h
      | some k =>
        rw [hd] at h
        cases h
    · cases h
theorem div_ne {mk raw : TextH} {l : List TextH} (h : divM mk raw = some l) : l ≠ [] := by
  unfold divM at h
  split at h
  · cases hn : nextM mk (raw.drop mk.length) with
    | none =>
      rw [hn] at h
      cases h
    | some x =>
      rw [hn] at h
      exact divn_ne hn h
  · cases h
theorem div_text {mk : TextH} (h13 : (13 : UInt8) ∉ mk) (h10 : (10 : UInt8) ∉ mk) (hmk : mk ≠ []) {l : List TextH} (hl : l ≠ []) (h : ∀ t ∈ l, ∀ u v, t ≠ u ++ mk ++ v) : divM mk (divTextM mk l) = some l := by
  obtain ⟨r, hr⟩ := divtext_mk mk l
  have hlen : ∀ k : List TextH, k.length < (divTextM mk k).length + 1 := by
    intro k
    induction k with
    | nil => simp
    | cons t k ih =>
      unfold divTextM
      simp only [List.length_append, List.length_cons] at ih ⊢
      omega
  have hd := divn_text h13 h10 hmk l ((divTextM mk l).length + 1) h (hlen l) r hr
  have hne : nextM mk r ≠ none := fun e => by
    have hd2 := hd
    unfold divN at hd2
    rw [e] at hd2
    simp only at hd2
    split at hd2
    · exact hl (Option.some.inj hd2).symm
    · cases hd2
  unfold divM
  rw [if_pos (show mk.isPrefixOf (divTextM mk l) = true by rw [hr]; exact List.isPrefixOf_iff_prefix.2 ⟨r, rfl⟩)]
  have e : (divTextM mk l).drop mk.length = r := by
    rw [hr]
    exact List.drop_left
  rw [e]
  cases hx : nextM mk r with
  | none => exact absurd hx hne
  | some x => exact hd

/-- What a good answer comes from. -/
theorem step_ok {sub : Option (TextH → Nat → TreeM × Nat × Int)} {s : TextH} {n m : Nat} {p : TreeM} (h : stepM sub s n = (p, m, 0)) :
    n < 16 ∧ (parseH s).2 = 0 ∧ ∃ t, typM (parseH s).1.1 = some t ∧
      ((t.1 ≠ multiM ∧ m = n + 1 ∧ ∃ b, leafM (codM (parseH s).1.1) (parseH s).1.2 = some b ∧ p = .mk (parseH s).1.1 t b []) ∨
       (t.1 = multiM ∧ ∃ l f, divM (45 :: 45 :: borderM t) (parseH s).1.2 = some l ∧ sub = some f ∧ (allM f l (n + 1)).2.2 = 0 ∧ p = .mk (parseH s).1.1 t [] (allM f l (n + 1)).1 ∧ m = (allM f l (n + 1)).2.1)) := by
  unfold stepM at h
  split at h
  · cases h
  rename_i h16
  split at h
  · rename_i he
    exact absurd (Prod.mk.inj (Prod.mk.inj h).2).2 he
  rename_i he
  have he : (parseH s).2 = 0 := Decidable.not_not.1 he
  refine ⟨by omega, he, ?_⟩
  cases ht : typM (parseH s).1.1 with
  | none =>
    rw [ht] at h
    cases h
  | some t =>
    rw [ht] at h
    refine ⟨t, rfl, ?_⟩
    simp only at h
    split at h
    · rename_i hm
      left
      cases hb : leafM (codM (parseH s).1.1) (parseH s).1.2 with
      | none =>
        rw [hb] at h
        cases h
      | some b =>
        rw [hb] at h
        obtain ⟨e1, e2⟩ := Prod.mk.inj h
        exact ⟨hm, (Prod.mk.inj e2).1.symm, b, rfl, e1.symm⟩
    · rename_i hm
      have hm : t.1 = multiM := Decidable.not_not.1 hm
      right
      refine ⟨hm, ?_⟩
      split at h
      · cases h
      cases hd : divM (45 :: 45 :: borderM t) (parseH s).1.2 with
      | none =>
        rw [hd] at h
        cases h
      | some l =>
        rw [hd] at h
        cases sub with
        | none => cases h
        | some f =>
          simp only at h
          split at h
          · rename_i ha
            obtain ⟨e1, e2⟩ := Prod.mk.inj h
            exact ⟨l, f, rfl, rfl, ha, e1.symm, (Prod.mk.inj e2).1.symm⟩
          · rename_i ha
            exact absurd (Prod.mk.inj (Prod.mk.inj h).2).2 ha
/-- A leaf is read the same wherever it stands. -/
theorem step_leaf {sub : Option (TextH → Nat → TreeM × Nat × Int)} {s : TextH} {n : Nat} {t : TypeC} {b : TextH} (hn : n < 16) (he : (parseH s).2 = 0) (ht : typM (parseH s).1.1 = some t) (hm : t.1 ≠ multiM)
    (hb : leafM (codM (parseH s).1.1) (parseH s).1.2 = some b) : stepM sub s n = (.mk (parseH s).1.1 t b [], n + 1, 0) := by
  unfold stepM
  rw [if_neg (by omega), if_neg (by rw [he]; simp), ht]
  simp only
  rw [if_pos hm, hb]
theorem all_len {f : TextH → Nat → TreeM × Nat × Int} : ∀ (l : List TextH) (n : Nat), (allM f l n).2.2 = 0 → (allM f l n).1.length = l.length
  | [], n, _ => rfl
  | t :: l, n, h => by
    unfold allM at h ⊢
    split at h
    · rename_i h1
      rw [if_pos h1]
      simp only [List.length_cons]
      rw [all_len l _ h]
    · rename_i h1
      exact absurd h h1
theorem part_step (d : Nat) : ∃ sub, partM d = stepM sub := by
  match d with
  | 0 => exact ⟨_, rfl⟩
  | d + 1 => exact ⟨_, rfl⟩
theorem part_leaf {d : Nat} {s : TextH} {n m : Nat} {p : TreeM} (h : partM d s n = (p, m, 0)) (hp : p.parts = []) : p.typ.1 ≠ multiM ∧ ∀ (e k : Nat), k < 16 → partM e s k = (p, k + 1, 0) := by
  obtain ⟨sub, hs⟩ := part_step d
  rw [hs] at h
  obtain ⟨_, he, t, ht, ⟨hm, _, b, hb, rfl⟩ | ⟨hm, l, f, hd, _, ha, rfl, _⟩⟩ := step_ok h
  · refine ⟨hm, fun e k hk => ?_⟩
    obtain ⟨sub2, hs2⟩ := part_step e
    rw [hs2]
    exact step_leaf hk he ht hm hb
  · have := all_len l (n + 1) ha
    rw [show (allM f l (n + 1)).1 = [] from hp] at this
    exact absurd (List.length_eq_zero_iff.1 this.symm) (div_ne hd)
/-- Right trees: a leaf has no parts, a multipart no body, a part at least, and room for what stands within it. -/
def goodM : Nat → TreeM → Prop
  | 0, p => p.typ.1 ≠ multiM ∧ p.parts = []
  | d + 1, p => (p.typ.1 ≠ multiM ∧ p.parts = []) ∨ (p.typ.1 = multiM ∧ p.parts ≠ [] ∧ p.body = [] ∧ ∀ q ∈ p.parts, goodM d q)
theorem all_good {d : Nat} (hd : ∀ s n p m, partM d s n = (p, m, 0) → n < m ∧ m ≤ 16 ∧ countM p = m - n ∧ goodM d p) : ∀ (l : List TextH) (n : Nat), n ≤ 16 → (allM (partM d) l n).2.2 = 0 →
    n ≤ (allM (partM d) l n).2.1 ∧ (allM (partM d) l n).2.1 ≤ 16 ∧ countsM (allM (partM d) l n).1 = (allM (partM d) l n).2.1 - n ∧ ∀ q ∈ (allM (partM d) l n).1, goodM d q
  | [], n, hn, _ => by
    refine ⟨Nat.le_refl _, hn, ?_, fun q hq => by cases hq⟩
    show 0 = n - n
    omega
  | t :: l, n, hn, h => by
    obtain ⟨⟨p, m, e⟩, hp⟩ : ∃ x, partM d t n = x := ⟨_, rfl⟩
    unfold allM at h ⊢
    rw [hp] at h ⊢
    simp only at h ⊢
    split at h
    · rename_i h1
      subst h1
      obtain ⟨g1, g2, g3, g4⟩ := hd t n p m hp
      obtain ⟨k1, k2, k3, k4⟩ := all_good hd l m g2 h
      rw [if_pos rfl]
      refine ⟨by simp only; omega, k2, ?_, ?_⟩
      · show countM p + countsM _ = _
        rw [g3, k3]
        simp only
        omega
      · intro q hq
        rcases List.mem_cons.1 hq with rfl | hq
        · exact g4
        · exact k4 q hq
    · rename_i h1
      exact absurd h h1
theorem part_good : ∀ (d : Nat) (s : TextH) (n : Nat) (p : TreeM) (m : Nat), partM d s n = (p, m, 0) → n < m ∧ m ≤ 16 ∧ countM p = m - n ∧ goodM d p
  | 0, s, n, p, m, h => by
    obtain ⟨hn, he, t, ht, ⟨hm, rfl, b, hb, rfl⟩ | ⟨hm, l, f, hd, hf, _⟩⟩ := step_ok (sub := none) h
    · refine ⟨by omega, by omega, ?_, hm, rfl⟩
      show 1 + 0 = _
      omega
    · cases hf
  | d + 1, s, n, p, m, h => by
    obtain ⟨hn, he, t, ht, ⟨hm, rfl, b, hb, rfl⟩ | ⟨hm, l, f, hd, hf, ha, rfl, rfl⟩⟩ := step_ok (sub := some (partM d)) h
    · refine ⟨by omega, by omega, ?_, .inl ⟨hm, rfl⟩⟩
      show 1 + 0 = _
      omega
    · obtain rfl := Option.some.inj hf
      obtain ⟨k1, k2, k3, k4⟩ := all_good (part_good d) l (n + 1) (by omega) ha
      refine ⟨by omega, k2, ?_, .inr ⟨hm, fun e => ?_, rfl, k4⟩⟩
      · show 1 + countsM _ = _
        rw [k3]
        omega
      · have := all_len l (n + 1) ha
        rw [show (allM (partM d) l (n + 1)).1 = [] from e] at this
        exact absurd (List.length_eq_zero_iff.1 this.symm) (div_ne hd)
theorem parse_good {s : TextH} (h : (parseM s).2 = 0) : 1 ≤ countM (parseM s).1 ∧ countM (parseM s).1 ≤ 16 ∧ goodM 4 (parseM s).1 := by
  unfold parseM at h ⊢
  split at h
  · cases h
  · rename_i h1
    rw [if_neg h1]
    obtain ⟨⟨p, m, e⟩, hp⟩ : ∃ x, partM 4 s 0 = x := ⟨_, rfl⟩
    rw [hp] at h ⊢
    have h : e = 0 := h
    subst h
    obtain ⟨g1, g2, g3, g4⟩ := part_good 4 s 0 p m hp
    exact ⟨by show 1 ≤ countM p; omega, by show countM p ≤ 16; omega, g4⟩
end Go.Proofs.YtidlpdiephlkhaaGreatDoor
namespace Go.Proofs.YtidlpdiephlkhaaGreatDoor

theorem top_fuelM : ∀ (f : Nat) (s : TextH) (x : List TextH × TextH), topH f s = some x → ∀ g, f ≤ g → topH g s = some x
  | 0, s, x, h, g, _ => by cases h
  | f + 1, s, x, h, g, hg => by
    match g, hg with
    | g + 1, hg =>
      unfold topH at h ⊢
      cases hc : cutH s with
      | none =>
        rw [hc] at h
        cases h
      | some y =>
        rw [hc] at h
        obtain ⟨l, r⟩ := y
        match l, h with
        | [], h => exact h
        | c :: l, h =>
          simp only at h ⊢
          cases ht : topH f r with
          | none =>
            rw [ht] at h
            cases h
          | some z =>
            rw [ht] at h
            rw [top_fuelM f r z ht g (by omega)]
            exact h
theorem top_moreM : ∀ (ls : List TextH) (s : TextH) (f : Nat) (x : List TextH × TextH), (∀ l ∈ ls, l ≠ [] ∧ ∀ c ∈ l, c ≠ 13) → topH f s = some x → topH (ls.length + f) (endH ls ++ s) = some (ls ++ x.1, x.2)
  | [], s, f, x, _, h => by
    rw [show ([] : List TextH).length + f = f from Nat.zero_add f]
    exact h
  | l :: ls, s, f, x, hl, h => by
    obtain ⟨h1, h2⟩ := hl l (List.mem_cons_self ..)
    have ih := top_moreM ls s f x (fun l h => hl l (List.mem_cons_of_mem _ h)) h
    have e : endH (l :: ls) ++ s = l ++ 13 :: 10 :: (endH ls ++ s) := by
      unfold endH
      rw [List.flatMap_cons]
      simp
    rw [show (l :: ls).length + f = (ls.length + f) + 1 by rw [List.length_cons]; omega]
    unfold topH
    rw [e, cut_line l _ h2]
    match l, h1 with
    | c :: l, _ =>
      show (topH _ _).map _ = _
      rw [ih]
      rfl
theorem linesH_ne {l : List FieldH} (hr : ∀ f ∈ l, RightH f) : ∀ x ∈ l.flatMap linesH, x ≠ [] ∧ ∀ c ∈ x, c ≠ 13 := fun x hx => by
  obtain ⟨f, hf, hx⟩ := List.mem_flatMap.1 hx
  refine ⟨?_, linesH_clean (hr f hf) x hx⟩
  obtain ⟨y, ys, e, hy⟩ := lines_shape f
  rw [e] at hx
  rcases List.mem_cons.1 hx with rfl | hx
  · simp
  · obtain ⟨z, rfl⟩ := hy x hx
    simp
theorem join_more : ∀ (l : List FieldH) (ws : List TextH), (∀ f ∈ l, RightH f) → goesH (ws.headD []) = false → joinH (l.flatMap linesH ++ ws) = l.map wholeH ++ joinH ws
  | [], _, _, _ => rfl
  | f :: l, ws, h, hw => by
    have ih := join_more l ws (fun g hg => h g (List.mem_cons_of_mem _ hg)) hw
    obtain ⟨x, xs, e, hx⟩ := lines_shape f
    have hfl := lines_flat f
    rw [e, List.flatten_cons] at hfl
    rw [List.flatMap_cons, e, List.cons_append, List.cons_append, List.append_assoc, join_conts xs _ _ (fun y hy => by obtain ⟨z, rfl⟩ := hx y hy; rfl), hfl, ih]
    · rfl
    · match l, h with
      | [], _ => exact hw
      | g :: l, h =>
        obtain ⟨y, ys, e2, _⟩ := lines_shape g
        rw [List.flatMap_cons, e2]
        exact name_goes (h g (List.mem_cons_of_mem _ (List.mem_cons_self ..))) _
theorem fields_more : ∀ (l : List FieldH) (ws : List TextH), (∀ f ∈ l, RightH f) → fieldsH (l.map wholeH ++ ws) = (fieldsH ws).map (l ++ ·)
  | [], ws, _ => by
    show fieldsH ws = _
    cases fieldsH ws <;> rfl
  | f :: l, ws, h => by
    have hf := h f (List.mem_cons_self ..)
    show fieldsH (wholeH f :: (l.map wholeH ++ ws)) = _
    rw [fieldsH, field_whole hf]
    show (if rightB f = true then _ else _) = _
    rw [if_pos ((right_iff f).2 hf), fields_more l ws (fun g hg => h g (List.mem_cons_of_mem _ hg))]
    cases fieldsH ws <;> rfl
theorem good_parts {s : TextH} (h : (parseH s).2 = 0) : ∃ ls rest fs, topH (s.length + 1) s = some (ls, rest) ∧ longH ls = false ∧ goesH (ls.headD []) = false ∧ fieldsH (joinH ls) = some fs ∧ fs.length ≤ 64 ∧ parseH s = ((fs, rest), 0) := by
  unfold parseH at h ⊢
  cases ht : topH (s.length + 1) s with
  | none =>
    rw [ht] at h
    cases h
  | some x =>
    obtain ⟨ls, rest⟩ := x
    rw [ht] at h
    simp only at h ⊢
    split at h
    · cases h
    rename_i h1
    split at h
    · cases h
    rename_i h2
    cases hf : fieldsH (joinH ls) with
    | none =>
      rw [hf] at h
      cases h
    | some fs =>
      rw [hf] at h
      simp only at h
      split at h
      · cases h
      · rename_i h3
        refine ⟨ls, rest, fs, rfl, by simpa using h1, by simpa using h2, hf, by omega, ?_⟩
        rw [if_neg h1, if_neg h2]
        simp only
        rw [if_neg h3]
/-- Fields ahead of a text that is read. -/
theorem parse_more {l : List FieldH} (hl : (printH l).2 = 0) {s raw : TextH} {fs : List FieldH} (h : parseH s = ((fs, raw), 0)) (h64 : l.length + fs.length ≤ 64) :
    parseH (endH (l.flatMap linesH) ++ s) = ((l ++ fs, raw), 0) := by
  obtain ⟨hr, _, hlong, _⟩ := print_ok hl
  obtain ⟨ls, rest, fs2, ht, h1, h2, h3, h4, h5⟩ := good_parts (by rw [h])
  rw [h] at h5
  obtain ⟨e1, _⟩ := Prod.mk.inj h5
  obtain ⟨rfl, rfl⟩ := Prod.mk.inj e1
  have ht2 := top_fuelM _ _ _ (top_moreM (l.flatMap linesH) s _ _ (linesH_ne hr) ht) ((endH (l.flatMap linesH) ++ s).length + 1) (by
    have := end_len (l.flatMap linesH)
    rw [List.length_append]
    omega)
  have hg : goesH ((l.flatMap linesH ++ ls).headD []) = false := by
    match l, hr with
    | [], _ => exact h2
    | f :: l, hr =>
      obtain ⟨y, ys, e, _⟩ := lines_shape f
      rw [List.flatMap_cons, e]
      exact name_goes (hr f (List.mem_cons_self ..)) _
  unfold parseH
  rw [ht2]
  simp only
  rw [if_neg (by unfold longH at hlong h1 ⊢; rw [List.any_append, hlong, h1]; decide), if_neg (by rw [hg]; decide), join_more l ls hr h2, fields_more l _ hr, h3]
  simp only [Option.map_some]
  rw [if_neg (by rw [List.length_append]; omega)]
theorem get_more {l fs : List FieldH} {n : TextH} (h : ∀ f ∈ l, sameH f.1 n = false) : getH (l ++ fs) n = getH fs n := by
  unfold getH
  rw [List.find?_append, List.find?_eq_none.2 (fun f hf e => by rw [h f hf] at e; cases e)]
  rfl
/-- What stands ahead plays no part. -/
theorem step_more {sub : Option (TextH → Nat → TreeM × Nat × Int)} {l fs : List FieldH} {s s2 raw : TextH} {n m : Nat} {p : TreeM} (h : parseH s = ((fs, raw), 0)) (h2 : parseH s2 = ((l ++ fs, raw), 0))
    (hc : ∀ f ∈ l, sameH f.1 ctM = false ∧ sameH f.1 cteM = false) (hs : stepM sub s n = (p, m, 0)) : p.fields = fs ∧ stepM sub s2 n = (.mk (l ++ fs) p.typ p.body p.parts, m, 0) := by
  have et : typM (l ++ fs) = typM fs := by unfold typM; rw [get_more fun f hf => (hc f hf).1]
  have ec : codM (l ++ fs) = codM fs := by unfold codM; rw [get_more fun f hf => (hc f hf).2]
  unfold stepM at hs ⊢
  rw [h] at hs
  rw [h2]
  simp only [et, ec] at hs ⊢
  split at hs
  · cases hs
  rename_i k1
  rw [if_neg k1]
  split at hs
  · rename_i k
    exact absurd rfl k
  rename_i k2
  rw [if_neg k2]
  cases ht : typM fs with
  | none =>
    rw [ht] at hs
    cases hs
  | some t =>
    rw [ht] at hs
    simp only at hs ⊢
    split at hs
    · rename_i k3
      rw [if_pos k3]
      cases hb : leafM (codM fs) raw with
      | none =>
        rw [hb] at hs
        cases hs
      | some b =>
        rw [hb] at hs
        obtain ⟨rfl, e⟩ := Prod.mk.inj hs
        obtain ⟨rfl, _⟩ := Prod.mk.inj e
        exact ⟨rfl, rfl⟩
    · rename_i k3
      rw [if_neg k3]
      split at hs
      · cases hs
      rename_i k4
      rw [if_neg k4]
      cases hd : divM (45 :: 45 :: borderM t) raw with
      | none =>
        rw [hd] at hs
        cases hs
      | some ts =>
        rw [hd] at hs
        cases sub with
        | none => cases hs
        | some f =>
          simp only at hs ⊢
          split at hs
          · rename_i k5
            rw [if_pos k5]
            obtain ⟨rfl, e⟩ := Prod.mk.inj hs
            obtain ⟨rfl, _⟩ := Prod.mk.inj e
            exact ⟨rfl, rfl⟩
          · rename_i k5
            exact absurd (Prod.mk.inj (Prod.mk.inj hs).2).2 k5
theorem part_parts {s : TextH} (h : (parseM s).2 = 0) : s.length ≤ 16384 ∧ ∃ p m, partM 4 s 0 = (p, m, 0) ∧ parseM s = (p, 0) ∧ (parseH s).2 = 0 := by
  unfold parseM at h ⊢
  split at h
  · cases h
  · rename_i h1
    obtain ⟨⟨p, m, e⟩, hp⟩ : ∃ x, partM 4 s 0 = x := ⟨_, rfl⟩
    rw [hp] at h ⊢
    have h : e = 0 := h
    subst h
    rw [if_neg h1]
    refine ⟨by omega, p, m, rfl, rfl, ?_⟩
    obtain ⟨sub, hs⟩ := part_step 4
    rw [hs] at hp
    exact (step_ok hp).2.1
theorem tree_more {l : List FieldH} (hl : (printH l).2 = 0) {s : TextH} (h : (parseM s).2 = 0) (h64 : l.length + (parseM s).1.fields.length ≤ 64) (hlen : (endH (l.flatMap linesH) ++ s).length ≤ 16384)
    (hc : ∀ f ∈ l, sameH f.1 ctM = false ∧ sameH f.1 cteM = false) :
    parseM (endH (l.flatMap linesH) ++ s) = (.mk (l ++ (parseM s).1.fields) (parseM s).1.typ (parseM s).1.body (parseM s).1.parts, 0) := by
  obtain ⟨_, p, m, hp, hm, he⟩ := part_parts h
  obtain ⟨ls, rest, fs, _, _, _, _, _, h5⟩ := good_parts he
  rw [hm] at h64 ⊢
  obtain ⟨sub, hs⟩ := part_step 4
  rw [hs] at hp
  have hpf : p.fields = fs := by
    obtain ⟨_, _, t, _, ⟨_, _, b, _, rfl⟩ | ⟨_, l, f, _, _, _, rfl, _⟩⟩ := step_ok hp
    · show (parseH s).1.1 = fs
      rw [h5]
    · show (parseH s).1.1 = fs
      rw [h5]
  have h2 := parse_more hl h5 (by rw [← hpf]; exact h64)
  obtain ⟨k1, k2⟩ := step_more h5 h2 hc hp
  unfold parseM
  rw [if_neg (by omega), hs, k2, k1]
/-- A text of one line and a body. -/
theorem parse_line {L more : TextH} {f : FieldH} (h0 : L ≠ []) (h13 : ∀ c ∈ L, c ≠ 13) (hlen : L.length ≤ 998) (hg : goesH L = false) (hf : fieldH L = some f) (hr : rightB f = true) :
    parseH (L ++ 13 :: 10 :: 13 :: 10 :: more) = (([f], more), 0) := by
  have ht := top_lines [L] more ((L ++ 13 :: 10 :: 13 :: 10 :: more).length + 1) (fun l hl => by rw [List.mem_singleton.1 hl]; exact ⟨h0, h13⟩) (by simp only [List.length_append, List.length_cons, List.length_nil]; omega)
  have e : endH [L] ++ 13 :: 10 :: more = L ++ 13 :: 10 :: 13 :: 10 :: more := by
    unfold endH
    simp
  rw [e] at ht
  unfold parseH
  rw [ht]
  simp only
  rw [if_neg (by unfold longH; simp; omega), if_neg (by show ¬ goesH L = true; rw [hg]; decide)]
  have ej : joinH [L] = [L] := rfl
  have ef : fieldsH [L] = some [f] := by
    rw [fieldsH, hf]
    show (if rightB f = true then _ else _) = _
    rw [if_pos hr]
    rfl
  rw [ej, ef]
  simp
theorem parse_bare (more : TextH) : parseH (13 :: 10 :: more) = (([], more), 0) := by
  have ht := top_lines [] more ((13 :: 10 :: more).length + 1) (fun l hl => by cases hl) (by simp)
  have ht : topH ((13 :: 10 :: more).length + 1) (13 :: 10 :: more) = some ([], more) := ht
  unfold parseH
  rw [ht]
  rfl
/-- Leaves one behind the other. -/
theorem all_leaves {f : TextH → Nat → TreeM × Nat × Int} {g : TextH → TreeM} : ∀ (ts : List TextH) (n : Nat), (∀ t ∈ ts, ∀ k, k < 16 → f t k = (g t, k + 1, 0)) → n + ts.length ≤ 16 → allM f ts n = (ts.map g, n + ts.length, 0)
  | [], n, _, _ => rfl
  | t :: ts, n, h, hn => by
    rw [List.length_cons] at hn
    have h1 := h t (List.mem_cons_self ..) n (by omega)
    have ih := all_leaves ts (n + 1) (fun t ht => h t (List.mem_cons_of_mem _ ht)) (by omega)
    unfold allM
    rw [h1]
    show (if (0 : Int) = 0 then ((g t :: (allM f ts (n + 1)).1, (allM f ts (n + 1)).2) : List TreeM × Nat × Int) else _) = _
    rw [if_pos rfl, ih, List.length_cons, show n + 1 + ts.length = n + (ts.length + 1) by omega]
    rfl
theorem counts_leaves : ∀ l : List TreeM, (∀ p ∈ l, p.parts = []) → countsM l = l.length
  | [], _ => rfl
  | .mk a b c d :: l, h => by
    have e : d = [] := h (.mk a b c d) (List.mem_cons_self ..)
    subst e
    show (1 + 0) + countsM l = _
    rw [counts_leaves l fun p hp => h p (List.mem_cons_of_mem _ hp), List.length_cons]
    omega
/-- A multipart of leaves. -/
theorem tree_parts {L : TextH} {f : FieldH} {t : TypeC} {ts : List TextH} (h0 : L ≠ []) (hL13 : ∀ c ∈ L, c ≠ 13) (hlen : L.length ≤ 998) (hg : goesH L = false) (hf : fieldH L = some f) (hr : rightB f = true)
    (ht : typM [f] = some t) (hc : codM [f] = 0) (hm : t.1 = multiM) (hb : borderM t ≠ []) (h13 : (13 : UInt8) ∉ borderM t) (h10 : (10 : UInt8) ∉ borderM t) (hne : ts ≠ []) (h15 : ts.length ≤ 15)
    (hno : ∀ x ∈ ts, ∀ u v, x ≠ u ++ (45 :: 45 :: borderM t) ++ v) (hok : ∀ x ∈ ts, (parseM x).2 = 0 ∧ (parseM x).1.parts = [])
    (hs : (L ++ 13 :: 10 :: 13 :: 10 :: divTextM (45 :: 45 :: borderM t) ts).length ≤ 16384) :
    parseM (L ++ 13 :: 10 :: 13 :: 10 :: divTextM (45 :: 45 :: borderM t) ts) = (.mk [f] t [] (ts.map fun x => (parseM x).1), 0) := by
  have hp := parse_line (more := divTextM (45 :: 45 :: borderM t) ts) h0 hL13 hlen hg hf hr
  have hd : divM (45 :: 45 :: borderM t) (divTextM (45 :: 45 :: borderM t) ts) = some ts := div_text (by
    intro h
    rcases List.mem_cons.1 h with h | h
    · cases h
    rcases List.mem_cons.1 h with h | h
    · cases h
    · exact h13 h) (by
    intro h
    rcases List.mem_cons.1 h with h | h
    · cases h
    rcases List.mem_cons.1 h with h | h
    · cases h
    · exact h10 h) (by simp) hne hno
  have ha := all_leaves (f := partM 3) (g := fun x => (parseM x).1) ts 1 (fun x hx k hk => by
    obtain ⟨e1, e2⟩ := hok x hx
    obtain ⟨_, p, m, hq, hm2, _⟩ := part_parts e1
    rw [hm2] at e2 ⊢
    exact (part_leaf hq e2).2 3 k hk) (by omega)
  have hst : partM 4 (L ++ 13 :: 10 :: 13 :: 10 :: divTextM (45 :: 45 :: borderM t) ts) 0 = (.mk [f] t [] (ts.map fun x => (parseM x).1), 1 + ts.length, 0) := by
    show stepM (some (partM 3)) _ 0 = _
    unfold stepM
    rw [hp]
    simp only
    rw [if_neg (by omega), if_neg (by simp), ht]
    simp only
    rw [if_neg (by simp [hm]), if_neg (by simp [hb, hc]), hd]
    simp only [Nat.zero_add]
    rw [ha]
    simp
  have e : ∀ x : TextH, x.length ≤ 16384 → parseM x = ((partM 4 x 0).1, (partM 4 x 0).2.2) := fun x hx => by
    unfold parseM
    exact if_neg (by omega)
  rw [e _ hs, hst]
end Go.Proofs.YtidlpdiephlkhaaGreatDoor
