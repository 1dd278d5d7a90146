/-
  Texts of this proof, put together: M14N, M14R, M14S, M14F, M14L, M14T.
-/
import Derived.Test.YtjikghndoklajaaGreatDoorZ06
import Derived.Lib.ItoaNum
import Derived.Test.YtjikghndoklajaaGreatDoorZ16
import Derived.Test.YtjikghndoklajaaGreatDoorZ07
namespace Go.Proofs.YtjikghndoklajaaGreatDoor

theorem pigeon : ∀ (M K : Nat) (f : Nat → Nat), (∀ i, i < K → f i < M) → (∀ i j, i < K → j < K → f i = f j → i = j) → K ≤ M
  | 0, K, f, h, _ => by
    rcases Nat.eq_zero_or_pos K with h0 | h0
    · omega
    · have := h 0 h0
      omega
  | M + 1, K, f, h, hi => by
    by_cases hx : ∃ i, i < K ∧ f i = M
    · obtain ⟨i, hik, hfi⟩ := hx
      match K, hik with
      | K + 1, hik =>
        have := pigeon M K (fun j => f (if j < i then j else j + 1)) (fun j hj => by
          have hlt : (if j < i then j else j + 1) < K + 1 := by split <;> omega
          have h1 := h _ hlt
          have h2 : f (if j < i then j else j + 1) ≠ M := fun e => by
            have := hi _ i hlt hik (e.trans hfi.symm)
            split at this <;> omega
          show f (if j < i then j else j + 1) < M
          omega) (fun j k hj hk e => by
          have h1 : (if j < i then j else j + 1) < K + 1 := by split <;> omega
          have h2 : (if k < i then k else k + 1) < K + 1 := by split <;> omega
          have := hi _ _ h1 h2 e
          split at this <;> split at this <;> omega)
        omega
    · have := pigeon M K f (fun i hik => by
        have h1 := h i hik
        have h2 : f i ≠ M := fun e => hx ⟨i, hik, e⟩
        omega) hi
      omega
theorem digits_inj : ∀ (u v : Nat), Lib.decDigits u = Lib.decDigits v → u = v := by
  have hd : ∀ a b : Nat, a < 10 → b < 10 → UInt8.ofNat (48 + a) = UInt8.ofNat (48 + b) → a = b := fun a b ha hb e => by
    have := congrArg UInt8.toNat e
    rw [UInt8.toNat_ofNat_of_lt' (by show 48 + a < 256; omega), UInt8.toNat_ofNat_of_lt' (by show 48 + b < 256; omega)] at this
    omega
  intro u
  induction u using Nat.strongRecOn with
  | ind u ih =>
    intro v e
    have hlen := congrArg List.length e
    rw [Lib.decDigits_length, Lib.decDigits_length] at hlen
    by_cases hu : u < 10
    · have hv : v < 10 := by
        rcases Nat.lt_or_ge v 10 with h | h
        · exact h
        · rw [Lib.nDigits_small hu, Lib.nDigits_big (by omega)] at hlen
          have := Lib.nDigits_pos (v / 10)
          omega
      have eu : Lib.decDigits u = [UInt8.ofNat (48 + u)] := by rw [Lib.decDigits, dif_pos hu]
      have ev : Lib.decDigits v = [UInt8.ofNat (48 + v)] := by rw [Lib.decDigits, dif_pos hv]
      rw [eu, ev] at e
      exact hd u v hu hv (List.cons.inj e).1
    · have hv : ¬ v < 10 := fun h => by
        rw [Lib.nDigits_small h, Lib.nDigits_big hu] at hlen
        have := Lib.nDigits_pos (u / 10)
        omega
      have eu : Lib.decDigits u = Lib.decDigits (u / 10) ++ [UInt8.ofNat (48 + u % 10)] := by
        conv =>
          lhs
          rw [Lib.decDigits, dif_neg hu]
      have ev : Lib.decDigits v = Lib.decDigits (v / 10) ++ [UInt8.ofNat (48 + v % 10)] := by
        conv =>
          lhs
          rw [Lib.decDigits, dif_neg hv]
      rw [eu, ev] at e
      obtain ⟨e1, e2⟩ := List.append_inj' e rfl
      have h1 := ih (u / 10) (by omega) (v / 10) e1
      have h2 := hd (u % 10) (v % 10) (Nat.mod_lt _ (by decide)) (Nat.mod_lt _ (by decide)) (List.cons.inj e2).1
      omega
theorem digits_short {u k : Nat} (h : u < 10 ^ (k + 1)) : Lib.nDigits u ≤ k + 1 := by
  induction k generalizing u with
  | zero => rw [Lib.nDigits_small (by simpa using h)]; exact Nat.le_refl _
  | succ k ih =>
    by_cases hu : u < 10
    · rw [Lib.nDigits_small hu]
      omega
    · rw [Lib.nDigits_big hu]
      have := ih (u := u / 10) (by rw [Nat.pow_succ] at h; omega)
      omega
def markR (k : Nat) : TextH := [45, 45, 61, 95] ++ Lib.decDigits k
theorem marks_few (T : TextH) (K : Nat) (hT : T.length ≤ 16384) (hK : K ≤ 100000) (h : ∀ k, k < K → ∃ u v, T = u ++ markR k ++ v) : K ≤ 81925 := by
  have hc : ∀ k, k < K → ∃ c, c < 81925 ∧ (T.drop (c / 5 + 4)).take (c % 5 + 1) = Lib.decDigits k := fun k hk => by
    obtain ⟨u, v, e⟩ := h k hk
    have hl : (Lib.decDigits k).length = Lib.nDigits k := Lib.decDigits_length k
    have hp : 10 ^ (4 + 1) = 100000 := by decide
    have h5 : Lib.nDigits k ≤ 5 := digits_short (k := 4) (by omega)
    have h1 := Lib.nDigits_pos k
    have hul : u.length + 4 + Lib.nDigits k ≤ T.length := by
      rw [e]
      unfold markR
      simp only [List.length_append, List.length_cons, List.length_nil, hl]
      omega
    refine ⟨u.length * 5 + (Lib.nDigits k - 1), by omega, ?_⟩
    rw [show (u.length * 5 + (Lib.nDigits k - 1)) / 5 = u.length by omega, show (u.length * 5 + (Lib.nDigits k - 1)) % 5 + 1 = Lib.nDigits k by omega]
    have e2 : T = (u ++ [45, 45, 61, 95]) ++ (Lib.decDigits k ++ v) := by
      rw [e]
      unfold markR
      simp
    have hd : T.drop (u.length + 4) = Lib.decDigits k ++ v := by
      rw [e2]
      exact List.drop_left' (by simp)
    rw [hd, ← hl, List.take_left]
  have hch : ∃ f : Nat → Nat, ∀ k, k < K → f k < 81925 ∧ (T.drop (f k / 5 + 4)).take (f k % 5 + 1) = Lib.decDigits k := by
    classical
    refine ⟨fun k => if hk : k < K then (hc k hk).choose else 0, fun k hk => ?_⟩
    simp only [dif_pos hk]
    exact (hc k hk).choose_spec
  obtain ⟨f, hf⟩ := hch
  exact pigeon 81925 K f (fun i hi => (hf i hi).1) fun i j hi hj e => by
    have h1 := (hf i hi).2
    have h2 := (hf j hj).2
    rw [e, h2] at h1
    exact (digits_inj _ _ h1).symm
end Go.Proofs.YtjikghndoklajaaGreatDoor
namespace Go.Proofs.YtjikghndoklajaaGreatDoor

def putC (b : TextA) : List ParC → List ParC
  | [] => [(boundM, b)]
  | p :: l => if p.1 = boundM then (p.1, b) :: l else p :: putC b l
def borderedR (t : TypeC) (b : TextA) : TypeC := (t.1, t.2.1, putC b t.2.2)
theorem put_find (b : TextA) : ∀ l : List ParC, findC (putC b l) boundM = some (boundM, b)
  | [] => by
    unfold putC findC
    rw [List.find?_cons, show (((boundM, b) : ParC).1 == boundM) = true from beq_self_eq_true _]
  | p :: l => by
    unfold putC
    by_cases h : p.1 = boundM
    · rw [if_pos h, h]
      unfold findC
      rw [List.find?_cons, show (((boundM, b) : ParC).1 == boundM) = true from beq_self_eq_true _]
    · rw [if_neg h]
      unfold findC
      rw [List.find?_cons, show (p.1 == boundM) = false from beq_eq_false_iff_ne.2 h]
      exact put_find b l
theorem bordered_border (t : TypeC) (b : TextA) : borderM (borderedR t b) = b := by
  unfold borderM borderedR
  rw [put_find]
theorem put_has (b : TextA) {n : TextA} (hn : n ≠ boundM) : ∀ l : List ParC, hasC (putC b l) n = hasC l n
  | [] => by
    unfold putC hasC
    rw [List.any_cons, show (((boundM, b) : ParC).1 == n) = false from beq_eq_false_iff_ne.2 (Ne.symm hn), Bool.false_or]
  | p :: l => by
    have ih := put_has b hn l
    unfold putC
    by_cases h : p.1 = boundM
    · rw [if_pos h]
      rfl
    · rw [if_neg h]
      unfold hasC at ih ⊢
      rw [List.any_cons, List.any_cons, ih]
theorem put_pars {b : TextA} (hb : valT b = true) : ∀ l : List ParC, parsC l = true → parsC (putC b l) = true
  | [], _ => by
    unfold putC parsC
    rw [show tokT ((boundM, b) : ParC).1 = true from by show tokT boundM = true; decide, show valT ((boundM, b) : ParC).2 = true from hb]
    rfl
  | p :: l, h => by
    unfold parsC at h
    simp only [Bool.and_eq_true, Bool.not_eq_true'] at h
    obtain ⟨h1, h2, h3, h4⟩ := h
    unfold putC
    by_cases e : p.1 = boundM
    · rw [if_pos e]
      unfold parsC
      simp only [Bool.and_eq_true, Bool.not_eq_true']
      exact ⟨h1, hb, h3, h4⟩
    · rw [if_neg e]
      unfold parsC
      simp only [Bool.and_eq_true, Bool.not_eq_true']
      exact ⟨h1, h2, by rw [put_has b e]; exact h3, put_pars hb l h4⟩
theorem put_len (b : TextA) : ∀ l : List ParC, hasC l boundM = true → (putC b l).length = l.length
  | [], h => by cases h
  | p :: l, h => by
    unfold putC
    by_cases e : p.1 = boundM
    · rw [if_pos e]
      rfl
    · rw [if_neg e, List.length_cons, List.length_cons, put_len b l]
      unfold hasC at h ⊢
      rw [List.any_cons, show (p.1 == boundM) = false from beq_eq_false_iff_ne.2 e, Bool.false_or] at h
      exact h
theorem put_less (b : TextA) : ∀ l : List ParC, (putC b l).length ≤ l.length + 1
  | [] => Nat.le_refl _
  | p :: l => by
    have := put_less b l
    unfold putC
    by_cases e : p.1 = boundM
    · rw [if_pos e, List.length_cons, List.length_cons]
      omega
    · rw [if_neg e, List.length_cons, List.length_cons]
      omega
theorem bordered_right {t : TypeC} {b : TextA} (ht : rightC t = true) (hb : valT b = true) (h8 : hasC t.2.2 boundM = true ∨ t.2.2.length ≤ 7) : rightC (borderedR t b) = true := by
  unfold rightC at ht ⊢
  simp only [Bool.and_eq_true, decide_eq_true_eq] at ht ⊢
  obtain ⟨h1, h2, h3, h4⟩ := ht
  refine ⟨h1, h2, ?_, put_pars hb _ h4⟩
  show (putC b t.2.2).length ≤ 8
  rcases h8 with h | h
  · rw [put_len b _ h]
    exact h3
  · have := put_less b t.2.2
    omega
theorem border_has {t : TypeC} (h : borderM t ≠ []) : hasC t.2.2 boundM = true := by
  unfold borderM at h
  cases e : findC t.2.2 boundM with
  | none =>
    rw [e] at h
    exact absurd rfl h
  | some p =>
    unfold findC at e
    exact (has_iff _ _).2 ⟨p, List.mem_of_find?_eq_some e, by simpa using List.find?_some e⟩
theorem tok_vis (c : UInt8) (h : tokC c = true) : 33 ≤ c.toNat ∧ c.toNat ≤ 126 := by
  unfold tokC lowA at h
  simp only [Bool.or_eq_true, decide_eq_true_eq] at h
  rcases h with (h | h) | h
  · omega
  · omega
  · have h3 : c ∈ marksC := by simpa using h
    simp only [marksC, List.mem_cons, List.not_mem_nil, or_false] at h3
    rcases h3 with rfl | rfl | rfl | rfl | rfl | rfl | rfl | rfl | rfl <;> decide
theorem tokt_vis {s : TextA} (h : tokT s = true) : ∀ c ∈ s, 33 ≤ c.toNat ∧ c.toNat ≤ 126 := fun c hc => tok_vis c (List.all_eq_true.1 (tok_all h).1 c hc)
def EndR (s : TextA) : Prop := ∃ r c, s = r ++ [c] ∧ 33 ≤ c.toNat ∧ c.toNat ≤ 126
theorem end_app (a : TextA) {b : TextA} (h : EndR b) : EndR (a ++ b) := by
  obtain ⟨r, c, e, hc⟩ := h
  exact ⟨a ++ r, c, by rw [e, List.append_assoc], hc⟩
theorem end_tok {s : TextA} (h : tokT s = true) : EndR s := by
  have hv := tokt_vis h
  have h1 := (tok_all h).2.1
  obtain ⟨r, c, e⟩ : ∃ r c, s = r ++ [c] := ⟨s.dropLast, s.getLast (List.ne_nil_of_length_pos h1), (List.dropLast_concat_getLast _).symm⟩
  exact ⟨r, c, e, hv c (by rw [e]; simp)⟩
theorem val_vis {v : TextA} (h : valT v = true) : (∀ c ∈ valTextC v, 32 ≤ c.toNat ∧ c.toNat ≤ 126) ∧ EndR (valTextC v) := by
  unfold valTextC
  by_cases e : tokT v = true
  · rw [if_pos e]
    exact ⟨fun c hc => ⟨by have := tokt_vis e c hc; omega, (tokt_vis e c hc).2⟩, end_tok e⟩
  · rw [if_neg e]
    unfold valT at h
    rw [Bool.and_eq_true] at h
    have hn : ∀ c ∈ v, 32 ≤ c.toNat ∧ c.toNat ≤ 126 := fun c hc => by
      have := List.all_eq_true.1 h.2 c hc
      unfold nameCA at this
      exact of_decide_eq_true this
    refine ⟨fun c hc => ?_, ?_⟩
    · unfold quoteA at hc
      rcases List.mem_cons.1 hc with rfl | hc
      · decide
      rcases List.mem_append.1 hc with hc | hc
      · obtain ⟨d, hd, hc⟩ := List.mem_flatMap.1 hc
        unfold tellA at hc
        by_cases hq : d = 34 ∨ d = 92
        · rw [if_pos hq] at hc
          rcases List.mem_cons.1 hc with rfl | hc
          · decide
          · rw [List.mem_singleton.1 hc]
            exact hn d hd
        · rw [if_neg hq] at hc
          rw [List.mem_singleton.1 hc]
          exact hn d hd
      · rw [List.mem_singleton.1 hc]
        decide
    · unfold quoteA
      exact ⟨34 :: v.flatMap tellA, 34, rfl, by decide⟩
theorem par_vis {p : ParC} (h1 : tokT p.1 = true) (h2 : valT p.2 = true) : (∀ c ∈ parTextC p, 32 ≤ c.toNat ∧ c.toNat ≤ 126) ∧ EndR (parTextC p) := by
  unfold parTextC
  refine ⟨fun c hc => ?_, end_app _ (end_app _ (end_app [61] (val_vis h2).2))⟩
  rcases List.mem_append.1 hc with hc | hc
  · rcases List.mem_cons.1 hc with rfl | hc
    · decide
    · rw [List.mem_singleton.1 hc]
      decide
  rcases List.mem_append.1 hc with hc | hc
  · have := tokt_vis h1 c hc
    omega
  rcases List.mem_cons.1 hc with rfl | hc
  · decide
  · exact (val_vis h2).1 c hc
theorem pars_vis : ∀ l : List ParC, (∀ p ∈ l, tokT p.1 = true ∧ valT p.2 = true) → (∀ c ∈ l.flatMap parTextC, 32 ≤ c.toNat ∧ c.toNat ≤ 126) ∧ ∀ s : TextA, EndR s → EndR (s ++ l.flatMap parTextC)
  | [], _ => by
    refine ⟨fun c hc => ?_, fun s hs => ?_⟩
    · rw [List.flatMap_nil] at hc
      cases hc
    · rw [List.flatMap_nil, List.append_nil]
      exact hs
  | p :: l, h => by
    have hp := par_vis (h p (List.mem_cons_self ..)).1 (h p (List.mem_cons_self ..)).2
    obtain ⟨h1, h2⟩ := pars_vis l fun q hq => h q (List.mem_cons_of_mem _ hq)
    refine ⟨fun c hc => ?_, fun s _ => ?_⟩
    · rw [List.flatMap_cons] at hc
      rcases List.mem_append.1 hc with hc | hc
      · exact hp.1 c hc
      · exact h1 c hc
    · rw [List.flatMap_cons, ← List.append_assoc]
      exact h2 _ (end_app s hp.2)
theorem text_vis {t : TypeC} (ht : rightC t = true) : (∀ c ∈ textC t, 32 ≤ c.toNat ∧ c.toNat ≤ 126) ∧ EndR (textC t) := by
  unfold rightC at ht
  simp only [Bool.and_eq_true, decide_eq_true_eq] at ht
  obtain ⟨h1, h2, -, h4⟩ := ht
  have hp := pars_vis t.2.2 (pars_tok h4)
  unfold textC
  refine ⟨fun c hc => ?_, end_app _ (end_app [47] (hp.2 _ (end_tok h2)))⟩
  rcases List.mem_append.1 hc with hc | hc
  · have := tokt_vis h1 c hc
    omega
  rcases List.mem_cons.1 hc with rfl | hc
  · decide
  rcases List.mem_append.1 hc with hc | hc
  · have := tokt_vis h2 c hc
    omega
  · exact hp.1 c hc
theorem typ_field {t : TypeC} (ht : rightC t = true) : rightB (ctM, textC t) = true := by
  obtain ⟨hv, r, c, e, hc⟩ := text_vis ht
  have h0 : ∃ d s, textC t = d :: s ∧ 33 ≤ d.toNat := by
    have h1 : tokT t.1 = true := by
      unfold rightC at ht
      simp only [Bool.and_eq_true] at ht
      exact ht.1
    have hl := (tok_all h1).2.1
    have hv1 := tokt_vis h1
    unfold textC
    match t.1, hl, hv1 with
    | d :: s, _, hv1 => exact ⟨d, _, List.cons_append, (hv1 d (List.mem_cons_self ..)).1⟩
  obtain ⟨d, s, e0, hd⟩ := h0
  have hb : ∀ x : UInt8, 33 ≤ x.toNat → blankH x = false := fun x hx => by
    unfold blankH
    rw [Bool.or_eq_false_iff, beq_eq_false_iff_ne, beq_eq_false_iff_ne]
    constructor
    · rintro rfl
      exact absurd hx (by decide)
    · rintro rfl
      exact absurd hx (by decide)
  unfold rightB
  rw [show decide (1 ≤ ((ctM, textC t) : FieldH).1.length ∧ ((ctM, textC t) : FieldH).1.length ≤ 64) = true from by show decide (1 ≤ ctM.length ∧ ctM.length ≤ 64) = true; decide,
    show (((ctM, textC t) : FieldH).1.all (fun c => decide (33 ≤ c.toNat ∧ c.toNat ≤ 126 ∧ c ≠ 58))) = true from by show ctM.all _ = true; decide, Bool.true_and, Bool.true_and]
  show ((textC t).all _ && (!(goesH (textC t)) && !(goesH (textC t).reverse))) = true
  simp only [Bool.and_eq_true, Bool.not_eq_true']
  refine ⟨List.all_eq_true.2 fun x hx => ?_, ?_, ?_⟩
  · have := hv x hx
    refine decide_eq_true ⟨?_, ?_, ?_⟩ <;> (intro e; rw [e] at this; exact absurd this.1 (by decide))
  · rw [e0]
    exact hb d hd
  · rw [e, List.reverse_append]
    exact hb c hc.1
theorem cod_field : rightB (cteM, quotedM) = true ∧ rightB (cteM, base64M) = true := by decide
end Go.Proofs.YtjikghndoklajaaGreatDoor
namespace Go.Proofs.YtjikghndoklajaaGreatDoor

def boundR (k : Nat) : TextA := [61, 95] ++ Lib.decDigits k
theorem mark_bound (k : Nat) : markR k = 45 :: 45 :: boundR k := rfl
def StandsR (ts : List TextH) (k : Nat) : Prop := ∃ x ∈ ts, ∃ u v, x = u ++ markR k ++ v
theorem stands_flat {ts : List TextH} {k : Nat} (h : StandsR ts k) : ∃ u v, ts.flatten = u ++ markR k ++ v := by
  obtain ⟨x, hx, u, v, e⟩ := h
  obtain ⟨a, b, e2⟩ := List.append_of_mem hx
  refine ⟨a.flatten ++ u, v ++ b.flatten, ?_⟩
  rw [e2, List.flatten_append, List.flatten_cons, e]
  simp only [List.append_assoc]
theorem num_small {ts : List TextH} (hl : ts.flatten.length ≤ 16384) {k : Nat} (h : ∀ j, j < k → StandsR ts j) : k ≤ 81925 := by
  by_cases hk : k ≤ 100000
  · exact marks_few ts.flatten k hl hk fun j hj => stands_flat (h j hj)
  · have := marks_few ts.flatten 100000 hl (Nat.le_refl _) fun j hj => stands_flat (h j (by omega))
    omega
theorem digits_vis : ∀ (n u : Nat), u < n → ∀ c ∈ Lib.decDigits u, 48 ≤ c.toNat ∧ c.toNat ≤ 57
  | 0, u, h => by omega
  | n + 1, u, h => fun c hc => by
    have hd : ∀ d, d < 10 → (UInt8.ofNat (48 + d)).toNat = 48 + d := fun d hd => by
      rw [UInt8.toNat_ofNat']
      omega
    by_cases hu : u < 10
    · rw [Lib.decDigits_one hu] at hc
      rw [List.mem_singleton.1 hc, hd u hu]
      omega
    · have e : Lib.decDigits u = Lib.decDigits (u / 10) ++ [UInt8.ofNat (48 + u % 10)] := by
        conv =>
          lhs
          rw [Lib.decDigits, dif_neg hu]
      rw [e] at hc
      rcases List.mem_append.1 hc with hc | hc
      · exact digits_vis n (u / 10) (by omega) c hc
      · rw [List.mem_singleton.1 hc, hd _ (Nat.mod_lt _ (by decide))]
        omega
theorem bound_val {k : Nat} (h : k ≤ 81925) : valT (boundR k) = true := by
  have h5 : Lib.nDigits k ≤ 5 := digits_short (k := 4) (by have : 10 ^ (4 + 1) = 100000 := by decide
                                                           omega)
  unfold valT boundR
  rw [Bool.and_eq_true]
  refine ⟨decide_eq_true ?_, List.all_eq_true.2 fun c hc => ?_⟩
  · rw [List.length_append, Lib.decDigits_length]
    show 2 + Lib.nDigits k ≤ 70
    omega
  · unfold nameCA
    refine decide_eq_true ?_
    rcases List.mem_append.1 hc with hc | hc
    · rcases List.mem_cons.1 hc with rfl | hc
      · decide
      · rw [List.mem_singleton.1 hc]
        decide
    · have := digits_vis (k + 1) k (by omega) c hc
      omega
theorem lay_multi {f : List FieldH} {t : TypeC} {l cs : List TreeM} {ts : List TextH} {k : Nat} (hm : t.1 = multiM) (ht : rightC t = true) (h8 : hasC t.2.2 boundM = true ∨ t.2.2.length ≤ 7) (hne : l ≠ []) (hl : LaysT l cs ts)
    (hk : k ≤ 81925) (hno : ¬ StandsR ts k) (hp : (printH (unfieldM f ++ [(ctM, textC (borderedR t (boundR k)))])).2 = 0) :
    LayT (.mk f t [] l) (.mk (unfieldM f ++ [(ctM, textC (borderedR t (boundR k)))]) (borderedR t (boundR k)) [] cs) (headerH (unfieldM f ++ [(ctM, textC (borderedR t (boundR k)))]) ++ divTextM (45 :: 45 :: boundR k) ts) := by
  have hb := bordered_border t (boundR k)
  have h := LayT.multi f t (borderedR t (boundR k)) l cs ts hm (bordered_right ht (bound_val hk) h8) (by rw [hb]; exact List.cons_ne_nil _ _) hne hl (fun x hx u v e => hno ⟨x, hx, u, v, by rw [hb] at e; exact e⟩) hp
  rw [hb] at h
  exact h
theorem print_canon {fs more : List FieldH} (hf : ∀ f ∈ fs, rightB f = true) (hm : ∀ f ∈ more, rightB f = true) : (printH (unfieldM fs ++ more)).2 = 0 ∨ (printH (unfieldM fs ++ more)).2 = 3 := by
  have ha : (unfieldM fs ++ more).all rightB = true := List.all_eq_true.2 fun f h => by
    rcases List.mem_append.1 h with h | h
    · exact hf f (List.mem_filter.1 h).1
    · exact hm f h
  unfold printH
  rw [if_neg (by rw [ha]; exact Bool.noConfusion)]
  by_cases h1 : 64 < (unfieldM fs ++ more).length
  · rw [if_pos h1]
    exact .inr rfl
  rw [if_neg h1]
  by_cases h2 : longH ((unfieldM fs ++ more).flatMap linesH) = true
  · rw [if_pos h2]
    exact .inr rfl
  · rw [if_neg h2]
    exact .inl rfl
end Go.Proofs.YtjikghndoklajaaGreatDoor
namespace Go.Proofs.YtjikghndoklajaaGreatDoor

def subB (m : TextH) : TextH → Bool
  | [] => m.isEmpty
  | c :: r => m.isPrefixOf (c :: r) || subB m r
theorem sub_iff (m : TextH) : ∀ s : TextH, subB m s = true ↔ ∃ u v, s = u ++ m ++ v
  | [] => by
    unfold subB
    constructor
    · intro h
      exact ⟨[], [], by rw [List.isEmpty_iff.1 h]; rfl⟩
    · rintro ⟨u, v, e⟩
      have : (u ++ m ++ v).length = 0 := by rw [← e]; rfl
      simp only [List.length_append] at this
      exact List.isEmpty_iff.2 (List.eq_nil_of_length_eq_zero (by omega))
  | c :: r => by
    unfold subB
    rw [Bool.or_eq_true, sub_iff m r, List.isPrefixOf_iff_prefix]
    constructor
    · rintro (⟨v, e⟩ | ⟨u, v, e⟩)
      · exact ⟨[], v, e.symm⟩
      · exact ⟨c :: u, v, by rw [e]; rfl⟩
    · rintro ⟨u, v, e⟩
      cases u with
      | nil => exact .inl ⟨v, e.symm⟩
      | cons d u => exact .inr ⟨u, v, (List.cons.inj e).2⟩
def standsB (ts : List TextH) (k : Nat) : Bool := ts.any (subB (markR k))
theorem stands_iff (ts : List TextH) (k : Nat) : standsB ts k = true ↔ StandsR ts k := by
  unfold standsB StandsR
  rw [List.any_eq_true]
  constructor
  · rintro ⟨x, hx, h⟩
    exact ⟨x, hx, (sub_iff _ _).1 h⟩
  · rintro ⟨x, hx, h⟩
    exact ⟨x, hx, (sub_iff _ _).2 h⟩
def numFrom (ts : List TextH) : Nat → Nat → Nat
  | 0, k => k
  | n + 1, k => if standsB ts k = true then numFrom ts n (k + 1) else k
def numR (ts : List TextH) : Nat := numFrom ts 81926 0
theorem num_from (ts : List TextH) : ∀ (n k : Nat), (∀ j, j < k → StandsR ts j) → (∀ j, j < numFrom ts n k → StandsR ts j) ∧ (¬ StandsR ts (numFrom ts n k) ∨ numFrom ts n k = k + n)
  | 0, k, h => ⟨h, .inr rfl⟩
  | n + 1, k, h => by
    unfold numFrom
    by_cases hs : standsB ts k = true
    · rw [if_pos hs]
      have := num_from ts n (k + 1) fun j hj => by
        by_cases e : j = k
        · rw [e]
          exact (stands_iff _ _).1 hs
        · exact h j (by omega)
      refine ⟨this.1, this.2.imp id fun e => by omega⟩
    · rw [if_neg hs]
      exact ⟨h, .inl fun e => hs ((stands_iff _ _).2 e)⟩
theorem num_spec {ts : List TextH} (hl : ts.flatten.length ≤ 16384) : ¬ StandsR ts (numR ts) ∧ numR ts ≤ 81925 ∧ ∀ j, j < numR ts → StandsR ts j := by
  have h := num_from ts 81926 0 fun j hj => by omega
  have hs := num_small hl h.1
  refine ⟨?_, hs, h.1⟩
  rcases h.2 with h2 | h2
  · exact h2
  · have : numFrom ts 81926 0 ≤ 81925 := hs
    omega

def headD (f : List FieldH) (t : TypeC) (b : TextH) (cs : List TreeM) (raw : TextH) : (TreeM × TextH) × Int :=
  if (printH f).2 ≠ 0 then ((nilM, []), (printH f).2)
  else if 16384 < (printH f).1.length + raw.length then ((nilM, []), 3)
  else ((.mk f t b cs, (printH f).1 ++ raw), 0)
mutual
def layD : TreeM → (TreeM × TextH) × Int
  | .mk f t b l =>
    if l = [] then
      if 16384 < b.length then ((nilM, []), 3)
      else headD (unfieldM f ++ [(ctM, textC t), (cteM, codR t)]) t b [] (rawR t b)
    else if (laysD l).2 ≠ 0 then ((nilM, []), (laysD l).2)
    else if 16384 < (laysD l).1.2.flatten.length then ((nilM, []), 3)
    else headD (unfieldM f ++ [(ctM, textC (borderedR t (boundR (numR (laysD l).1.2))))]) (borderedR t (boundR (numR (laysD l).1.2))) [] (laysD l).1.1 (divTextM (45 :: 45 :: boundR (numR (laysD l).1.2)) (laysD l).1.2)
def laysD : List TreeM → (List TreeM × List TextH) × Int
  | [] => (([], []), 0)
  | p :: l =>
    if (layD p).2 ≠ 0 then (([], []), (layD p).2)
    else if (laysD l).2 ≠ 0 then (([], []), (laysD l).2)
    else (((layD p).1.1 :: (laysD l).1.1, (layD p).1.2 :: (laysD l).1.2), 0)
end
mutual
def FormD : TreeM → Prop
  | .mk f t b l => rightC t = true ∧ (∀ x ∈ f, rightB x = true) ∧ (l = [] → t.1 ≠ multiM) ∧ (l ≠ [] → t.1 = multiM ∧ b = [] ∧ (hasC t.2.2 boundM = true ∨ t.2.2.length ≤ 7)) ∧ FormsD l
def FormsD : List TreeM → Prop
  | [] => True
  | p :: l => FormD p ∧ FormsD l
end
theorem head_ok {f : List FieldH} {t : TypeC} {b : TextH} {cs : List TreeM} {raw : TextH} (h : (headD f t b cs raw).2 = 0) :
    (printH f).2 = 0 ∧ headD f t b cs raw = ((.mk f t b cs, headerH f ++ raw), 0) ∧ (headerH f ++ raw).length ≤ 16384 := by
  unfold headD at h ⊢
  by_cases h1 : (printH f).2 ≠ 0
  · rw [if_pos h1] at h
    exact absurd h h1
  rw [if_neg h1] at h ⊢
  have h0 : (printH f).2 = 0 := by simpa using h1
  have e := (print_ok h0).2.2.2
  rw [e] at h ⊢
  by_cases h2 : 16384 < (headerH f).length + raw.length
  · rw [if_pos h2] at h
    exact absurd h (by decide)
  rw [if_neg h2]
  exact ⟨h0, rfl, by rw [List.length_append]; omega⟩
theorem head_err {fs more : List FieldH} {t : TypeC} {b : TextH} {cs : List TreeM} {raw : TextH} (hf : ∀ f ∈ fs, rightB f = true) (hm : ∀ f ∈ more, rightB f = true) :
    (headD (unfieldM fs ++ more) t b cs raw).2 = 0 ∨ headD (unfieldM fs ++ more) t b cs raw = ((nilM, []), 3) := by
  unfold headD
  rcases print_canon hf hm with h | h
  · rw [if_neg (by rw [h]; decide)]
    by_cases h2 : 16384 < (printH (unfieldM fs ++ more)).1.length + raw.length
    · rw [if_pos h2]
      exact .inr rfl
    · rw [if_neg h2]
      exact .inl rfl
  · rw [if_pos (by rw [h]; decide), h]
    exact .inr rfl
mutual
theorem layd_says : ∀ p : TreeM, FormD p → layD p = ((nilM, []), 3) ∨ ((layD p).2 = 0 ∧ LayT p (layD p).1.1 (layD p).1.2 ∧ (layD p).1.2.length ≤ 16384)
  | .mk f t b l, h => by
    unfold FormD at h
    obtain ⟨ht, hf, hleaf, hmul, hl⟩ := h
    by_cases e : l = []
    · have e2 : layD (.mk f t b l) = if 16384 < b.length then ((nilM, []), 3) else headD (unfieldM f ++ [(ctM, textC t), (cteM, codR t)]) t b [] (rawR t b) := by
        unfold layD
        rw [if_pos e]
      rw [e2]
      by_cases hb : 16384 < b.length
      · rw [if_pos hb]
        exact .inl rfl
      rw [if_neg hb]
      have hm : ∀ x ∈ [(ctM, textC t), (cteM, codR t)], rightB x = true := fun x hx => by
        rcases List.mem_cons.1 hx with rfl | hx
        · exact typ_field ht
        · rw [List.mem_singleton.1 hx]
          unfold codR
          split
          · exact cod_field.1
          · exact cod_field.2
      rcases head_err (t := t) (b := b) (cs := []) (raw := rawR t b) hf hm with h0 | h3
      · obtain ⟨hp, eh, hlen⟩ := head_ok h0
        rw [eh, e]
        exact .inr ⟨rfl, .leaf f t b (hleaf e) ht hp, hlen⟩
      · exact .inl h3
    · obtain ⟨hmm, hb, h8⟩ := hmul e
      have hs := laysd_says l hl
      have e2 : layD (.mk f t b l) = if (laysD l).2 ≠ 0 then ((nilM, []), (laysD l).2)
          else if 16384 < (laysD l).1.2.flatten.length then ((nilM, []), 3)
          else headD (unfieldM f ++ [(ctM, textC (borderedR t (boundR (numR (laysD l).1.2))))]) (borderedR t (boundR (numR (laysD l).1.2))) [] (laysD l).1.1 (divTextM (45 :: 45 :: boundR (numR (laysD l).1.2)) (laysD l).1.2) := by
        conv =>
          lhs
          unfold layD
        rw [if_neg e]
      rw [e2]
      rcases hs with h3 | ⟨h0, hl2⟩
      · rw [if_pos (by rw [h3]; decide), h3]
        exact .inl rfl
      rw [if_neg (by rw [h0]; decide)]
      by_cases hlen : 16384 < (laysD l).1.2.flatten.length
      · rw [if_pos hlen]
        exact .inl rfl
      rw [if_neg hlen]
      obtain ⟨n1, n2, -⟩ := num_spec (ts := (laysD l).1.2) (by omega)
      have hr := bordered_right ht (bound_val n2) h8
      have hm : ∀ x ∈ [(ctM, textC (borderedR t (boundR (numR (laysD l).1.2))))], rightB x = true := fun x hx => by
        rw [List.mem_singleton.1 hx]
        exact typ_field hr
      rcases head_err (t := borderedR t (boundR (numR (laysD l).1.2))) (b := []) (cs := (laysD l).1.1) (raw := divTextM (45 :: 45 :: boundR (numR (laysD l).1.2)) (laysD l).1.2) hf hm with h0 | h3
      · obtain ⟨hp, eh, hlen2⟩ := head_ok h0
        rw [eh, hb]
        exact .inr ⟨rfl, lay_multi hmm ht h8 e hl2 n2 n1 hp, hlen2⟩
      · exact .inl h3
theorem laysd_says : ∀ l : List TreeM, FormsD l → laysD l = (([], []), 3) ∨ ((laysD l).2 = 0 ∧ LaysT l (laysD l).1.1 (laysD l).1.2)
  | [], _ => .inr ⟨rfl, .nil⟩
  | p :: l, h => by
    unfold FormsD at h
    have h1 := layd_says p h.1
    have h2 := laysd_says l h.2
    have e2 : laysD (p :: l) = if (layD p).2 ≠ 0 then (([], []), (layD p).2)
        else if (laysD l).2 ≠ 0 then (([], []), (laysD l).2)
        else (((layD p).1.1 :: (laysD l).1.1, (layD p).1.2 :: (laysD l).1.2), 0) := by
      conv =>
        lhs
        unfold laysD
    rw [e2]
    rcases h1 with h3 | ⟨h0, hp, -⟩
    · rw [if_pos (by rw [h3]; decide), h3]
      exact .inl rfl
    rw [if_neg (by rw [h0]; decide)]
    rcases h2 with h3 | ⟨h0, hl⟩
    · rw [if_pos (by rw [h3]; decide), h3]
      exact .inl rfl
    rw [if_neg (by rw [h0]; decide)]
    exact .inr ⟨rfl, .cons hp hl⟩
end
end Go.Proofs.YtjikghndoklajaaGreatDoor
namespace Go.Proofs.YtjikghndoklajaaGreatDoor

theorem lays_cons (p : TreeM) (l : List TreeM) : laysD (p :: l) = if (layD p).2 ≠ 0 then (([], []), (layD p).2)
    else if (laysD l).2 ≠ 0 then (([], []), (laysD l).2)
    else (((layD p).1.1 :: (laysD l).1.1, (layD p).1.2 :: (laysD l).1.2), 0) := by
  conv =>
    lhs
    unfold laysD
theorem lays_nil : laysD [] = (([], []), 0) := by
  unfold laysD
  rfl
theorem lays_all : ∀ l : List TreeM, (∀ p ∈ l, (layD p).2 = 0) → laysD l = ((l.map fun p => (layD p).1.1, l.map fun p => (layD p).1.2), 0)
  | [], _ => by rw [lays_nil]; rfl
  | p :: l, h => by
    have ih := lays_all l fun q hq => h q (List.mem_cons_of_mem _ hq)
    have hp := h p (List.mem_cons_self ..)
    rw [lays_cons, if_neg (by rw [hp]; decide), ih]
    rfl
theorem lays_bad : ∀ (l : List TreeM) (i : Nat) (hi : i < l.length), (∀ p ∈ l.take i, (layD p).2 = 0) → (layD l[i]).2 ≠ 0 → laysD l = (([], []), (layD l[i]).2)
  | p :: l, 0, _, _, h => by
    have h : (layD p).2 ≠ 0 := h
    rw [lays_cons, if_pos h]
    rfl
  | p :: l, i + 1, hi, ha, h => by
    have hp := ha p (by rw [List.take_succ_cons]; exact List.mem_cons_self ..)
    have hil : i < l.length := by simpa using hi
    have h : (layD l[i]).2 ≠ 0 := h
    have ih := lays_bad l i hil (fun q hq => ha q (by rw [List.take_succ_cons]; exact List.mem_cons_of_mem _ hq)) h
    rw [lays_cons, if_neg (by rw [hp]; decide), ih, if_pos h]
    rfl
theorem lay_multiE {p : TreeM} (h : p.parts ≠ []) : layD p = if (laysD p.parts).2 ≠ 0 then ((nilM, []), (laysD p.parts).2)
    else if 16384 < (laysD p.parts).1.2.flatten.length then ((nilM, []), 3)
    else headD (unfieldM p.fields ++ [(ctM, textC (borderedR p.typ (boundR (numR (laysD p.parts).1.2))))]) (borderedR p.typ (boundR (numR (laysD p.parts).1.2))) [] (laysD p.parts).1.1 (divTextM (45 :: 45 :: boundR (numR (laysD p.parts).1.2)) (laysD p.parts).1.2) := by
  obtain ⟨f, t, b, l⟩ := p
  have e : l ≠ [] := h
  conv =>
    lhs
    unfold layD
  rw [if_neg e]
  rfl
theorem lay_leafE {p : TreeM} (h : p.parts = []) : layD p = if 16384 < p.body.length then ((nilM, []), 3) else headD (unfieldM p.fields ++ [(ctM, textC p.typ), (cteM, codR p.typ)]) p.typ p.body [] (rawR p.typ p.body) := by
  obtain ⟨f, t, b, l⟩ := p
  have e : l = [] := h
  conv =>
    lhs
    unfold layD
  rw [if_pos e]
  rfl
theorem lay_multi_bad {p : TreeM} (i : Nat) (hi : i < p.parts.length) (ha : ∀ q ∈ p.parts.take i, (layD q).2 = 0) (h : (layD p.parts[i]).2 ≠ 0) : layD p = ((nilM, []), (layD p.parts[i]).2) := by
  rw [lay_multiE (fun e => by rw [e] at hi; cases hi), lays_bad _ i hi ha h, if_pos h]
theorem lay_multi_long {p : TreeM} (hne : p.parts ≠ []) (ha : ∀ q ∈ p.parts, (layD q).2 = 0) (hl : 16384 < (p.parts.map fun q => (layD q).1.2).flatten.length) : layD p = ((nilM, []), 3) := by
  rw [lay_multiE hne, lays_all _ ha]
  show (if (0 : Int) ≠ 0 then _ else if 16384 < (p.parts.map fun q => (layD q).1.2).flatten.length then ((nilM, []), 3) else _) = _
  rw [if_neg (by decide), if_pos hl]
theorem lay_multi_ok {p : TreeM} (hne : p.parts ≠ []) (ha : ∀ q ∈ p.parts, (layD q).2 = 0) (hl : ¬ 16384 < (p.parts.map fun q => (layD q).1.2).flatten.length) {ts : List TextH} (hts : (p.parts.map fun q => (layD q).1.2) = ts) {t : TypeC} (ht : borderedR p.typ (boundR (numR ts)) = t) :
    layD p = headD (unfieldM p.fields ++ [(ctM, textC t)]) t [] (p.parts.map fun q => (layD q).1.1) (divTextM (45 :: 45 :: boundR (numR ts)) ts) := by
  subst hts ht
  rw [lay_multiE hne, lays_all _ ha]
  show (if (0 : Int) ≠ 0 then _ else if 16384 < (p.parts.map fun q => (layD q).1.2).flatten.length then _ else _) = _
  rw [if_neg (by decide), if_neg hl]
end Go.Proofs.YtjikghndoklajaaGreatDoor
namespace Go.Proofs.YtjikghndoklajaaGreatDoor

theorem typ_rightR {l : List FieldH} {t : TypeC} (h : typM l = some t) : rightC t = true := by
  unfold typM at h
  cases hg : getH l ctM with
  | none =>
    rw [hg] at h
    obtain rfl := Option.some.inj h
    decide +kernel
  | some b =>
    rw [hg] at h
    exact parse_right h
theorem fields_rightR {s : TextH} (h : (parseH s).2 = 0) : ∀ f ∈ (parseH s).1.1, rightB f = true := by
  unfold parseH at h ⊢
  cases ht : topH (s.length + 1) s with
  | none =>
    rw [ht] at h
    exact absurd h (by decide)
  | some x =>
    obtain ⟨ls, rest⟩ := x
    rw [ht] at h
    simp only at h ⊢
    by_cases h1 : longH ls = true
    · rw [if_pos h1] at h
      exact absurd h (by decide)
    rw [if_neg h1] at h ⊢
    by_cases h2 : goesH (ls.headD []) = true
    · rw [if_pos h2] at h
      exact absurd h (by decide)
    rw [if_neg h2] at h ⊢
    cases hf : fieldsH (joinH ls) with
    | none =>
      rw [hf] at h
      cases h
    | some l =>
      rw [hf] at h
      simp only at h ⊢
      by_cases h3 : 64 < l.length
      · rw [if_pos h3] at h
        exact absurd h (by decide)
      rw [if_neg h3]
      exact fun f hf2 => (right_iff f).2 (fields_right _ hf f hf2)
theorem step_border {sub : Option (TextH → Nat → TreeM × Nat × Int)} {s : TextH} {n m : Nat} {p : TreeM} {t : TypeC} (h : stepM sub s n = (p, m, 0)) (ht : typM (parseH s).1.1 = some t) (hm : t.1 = multiM) : borderM t ≠ [] := fun hb => by
  obtain ⟨hn, he, -⟩ := step_ok h
  unfold stepM at h
  rw [if_neg (by omega), if_neg (by rw [he]; decide), ht] at h
  simp only at h
  rw [if_neg (by rw [hm]; exact fun h => h rfl), if_pos (.inl hb)] at h
  exact absurd (Prod.mk.inj (Prod.mk.inj h).2).2 (by decide)
theorem forms_all : ∀ {l : List TreeM}, (∀ q ∈ l, FormD q) → FormsD l
  | [], _ => by
    unfold FormsD
    trivial
  | q :: l, h => by
    unfold FormsD
    exact ⟨h q (List.mem_cons_self ..), forms_all fun x hx => h x (List.mem_cons_of_mem _ hx)⟩
theorem all_form {f : TextH → Nat → TreeM × Nat × Int} (hd : ∀ s n p m, f s n = (p, m, 0) → FormD p) : ∀ (l : List TextH) (n : Nat), (allM f l n).2.2 = 0 → ∀ q ∈ (allM f l n).1, FormD q
  | [], n, _ => fun q hq => by cases hq
  | t :: l, n, h => by
    obtain ⟨⟨p, m, e⟩, hp⟩ : ∃ x, f t n = x := ⟨_, rfl⟩
    unfold allM at h ⊢
    rw [hp] at h ⊢
    simp only at h ⊢
    split at h
    · rename_i h1
      subst h1
      rw [if_pos rfl]
      intro q hq
      rcases List.mem_cons.1 hq with rfl | hq
      · exact hd _ _ _ _ hp
      · exact all_form hd l m h q hq
    · rename_i h1
      exact absurd h h1
theorem part_form : ∀ (d : Nat) (s : TextH) (n : Nat) (p : TreeM) (m : Nat), partM d s n = (p, m, 0) → FormD p
  | 0, s, n, p, m, h => by
    obtain ⟨hn, he, t, ht, ⟨hm, rfl, b, hb, rfl⟩ | ⟨hm, l, f, hd, hf, _⟩⟩ := step_ok (sub := none) h
    · unfold FormD
      exact ⟨typ_rightR ht, fields_rightR he, fun _ => hm, fun h => absurd rfl h, forms_all fun q hq => by cases hq⟩
    · cases hf
  | d + 1, s, n, p, m, h => by
    have hbo := @step_border (some (partM d)) s n m p
    obtain ⟨hn, he, t, ht, ⟨hm, rfl, b, hb, rfl⟩ | ⟨hm, l, f, hd, hf, ha, rfl, rfl⟩⟩ := step_ok (sub := some (partM d)) h
    · unfold FormD
      exact ⟨typ_rightR ht, fields_rightR he, fun _ => hm, fun h => absurd rfl h, forms_all fun q hq => by cases hq⟩
    · obtain rfl := Option.some.inj hf
      unfold FormD
      refine ⟨typ_rightR ht, fields_rightR he, fun e => ?_, fun _ => ⟨hm, rfl, .inl (border_has (hbo h ht hm))⟩, forms_all (all_form (part_form d) l (n + 1) ha)⟩
      have := all_len l (n + 1) ha
      rw [show (allM (partM d) l (n + 1)).1 = [] from e] at this
      exact absurd (List.length_eq_zero_iff.1 this.symm) (div_ne hd)
theorem parse_form {s : TextH} (h : (parseM s).2 = 0) : FormD (parseM s).1 := by
  unfold parseM at h ⊢
  split at h
  · cases h
  · rename_i h1
    rw [if_neg h1]
    obtain ⟨⟨p, m, e⟩, hp⟩ : ∃ x, partM 4 s 0 = x := ⟨_, rfl⟩
    rw [hp] at h ⊢
    have h : e = 0 := h
    subst h
    exact part_form 4 s 0 p m hp
theorem parsed_laid {s : TextH} (h : (parseM s).2 = 0) : layD (parseM s).1 = ((nilM, []), 3) ∨
    ((layD (parseM s).1).2 = 0 ∧ parseM (layD (parseM s).1).1.2 = ((layD (parseM s).1).1.1, 0) ∧ (leavesM (layD (parseM s).1).1.1).map TreeM.body = (leavesM (parseM s).1).map TreeM.body) := by
  have hf := parse_form h
  obtain ⟨-, g2, g3⟩ := parse_good h
  generalize (parseM s).1 = p at hf g2 g3 ⊢
  rcases layd_says _ hf with h3 | ⟨h0, hl, hlen⟩
  · exact .inl h3
  · refine .inr ⟨h0, ?_, lay_bodies hl⟩
    have := lay_parse 4 _ _ _ 0 hl g3 (by omega)
    unfold parseM
    rw [if_neg (by omega), this]
end Go.Proofs.YtjikghndoklajaaGreatDoor
