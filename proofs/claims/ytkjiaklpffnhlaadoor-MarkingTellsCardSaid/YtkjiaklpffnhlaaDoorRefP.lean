/-
  A text's label, taken off name by name: the same label as the program's own parsing. Plain facts.
-/
import Derived.Test.YtkjiaklpffnhlaaDoorBackH
namespace Go.Proofs.YtkjiaklpffnhlaaDoor
open Go.RowKit

def nmL (zs : List ByteArray) (i : Nat) : List UInt8 := (zs.getD i ByteArray.empty).data.toList
/-- Free of slashes. -/
def Free (a : List UInt8) : Prop := ∀ c ∈ a, c ≠ 47
/-- Empty, or begins with a slash. -/
def Slashed (x : List UInt8) : Prop := x = [] ∨ ∃ y, x = 47 :: y
theorem slash_eq : ∀ {a b x y : List UInt8}, Free a → Free b → Slashed x → Slashed y → a ++ x = b ++ y → a = b ∧ x = y
  | [], [], _, _, _, _, _, _, h => ⟨rfl, h⟩
  | [], d :: b1, x, y, _, hb, hx, _, h => by
    rcases hx with rfl | ⟨z, rfl⟩
    · simp at h
    · simp at h
      exact absurd h.1.symm (hb d (by simp))
  | d :: a1, [], x, y, ha, _, _, hy, h => by
    rcases hy with rfl | ⟨z, rfl⟩
    · simp at h
    · simp at h
      exact absurd h.1 (ha d (by simp))
  | d :: a1, e :: b1, x, y, ha, hb, hx, hy, h => by
    simp only [List.cons_append, List.cons.injEq] at h
    obtain ⟨h1, h2⟩ := slash_eq (fun c hc => ha c (by simp [hc])) (fun c hc => hb c (by simp [hc])) hx hy h.2
    exact ⟨by rw [h.1, h1], h2⟩
/-- Pieces, each behind a slash. -/
def flat (P : List (List UInt8)) : List UInt8 := P.flatMap (fun q => 47 :: q)
theorem flat_cons (q : List UInt8) (P : List (List UInt8)) : flat (q :: P) = 47 :: (q ++ flat P) := by simp [flat]
theorem flat_slashed : ∀ P, Slashed (flat P)
  | [] => .inl rfl
  | q :: P => .inr ⟨_, flat_cons q P⟩
theorem flat_nil {P : List (List UInt8)} : flat P = [] ↔ P = [] := by
  cases P with
  | nil => simp [flat]
  | cons q P => rw [flat_cons]; simp
theorem split_flat (r : List UInt8) : flat (splitB 47 r) = 47 :: r := by
  obtain ⟨q, qs, h1, h2⟩ := split_join r
  rw [h1, flat_cons]
  congr 1
  exact h2.symm
theorem split_free : ∀ r, ∀ p ∈ splitB 47 r, Free p
  | [], p, hp => by
    simp [splitB] at hp
    subst hp
    intro c hc
    simp at hc
  | b :: r, p, hp => by
    have ih := split_free r
    by_cases hb : b = 47
    · rw [splitB, if_pos hb] at hp
      rcases List.mem_cons.1 hp with rfl | hp
      · intro c hc
        simp at hc
      · exact ih p hp
    · rw [splitB, if_neg hb] at hp
      rw [splitB_cons 47 r] at ih
      rcases List.mem_cons.1 hp with rfl | hp
      · intro c hc
        rcases List.mem_cons.1 hc with rfl | hc
        · exact hb
        · exact ih _ (by simp) c hc
      · exact ih p (by simp [hp])
/-- Does the rest go on with this name? -/
def Goes (rest nm : List UInt8) : Prop := nm.length + 1 ≤ rest.length ∧ rest.take (nm.length + 1) = 47 :: nm ∧ (rest.length = nm.length + 1 ∨ rest[nm.length + 1]? = some 47)
theorem goes_iff {P : List (List UInt8)} {nm : List UInt8} (hP : ∀ p ∈ P, Free p) (hn : Free nm) : Goes (flat P) nm ↔ ∃ P', P = nm :: P' := by
  constructor
  · rintro ⟨h1, h2, h3⟩
    cases P with
    | nil => simp [flat] at h1
    | cons q P =>
      rw [flat_cons] at h1 h2 h3
      rw [List.take_succ_cons, List.cons.injEq] at h2
      have hz : (q ++ flat P) = nm ++ (q ++ flat P).drop nm.length := by
        conv => lhs; rw [← List.take_append_drop nm.length (q ++ flat P), h2.2]
      have hs : Slashed ((q ++ flat P).drop nm.length) := by
        rcases h3 with h3 | h3
        · left
          apply List.drop_eq_nil_of_le
          simp at h3 ⊢
          omega
        · right
          rw [List.getElem?_cons_succ] at h3
          have hl := (List.getElem?_eq_some_iff.1 h3).1
          have hg := (List.getElem?_eq_some_iff.1 h3).2
          exact ⟨_, by rw [List.drop_eq_getElem_cons hl, hg]⟩
      exact ⟨P, by rw [(slash_eq (hP q (by simp)) hn (flat_slashed P) hs hz).1]⟩
  · rintro ⟨P', rfl⟩
    rw [flat_cons]
    refine ⟨by simp, by rw [List.take_succ_cons, List.take_left], ?_⟩
    rcases flat_slashed P' with h | ⟨y, h⟩
    · left
      rw [h]
      simp
    · right
      rw [h, List.getElem?_cons_succ]
      simp

open Classical in
/-- One name taken off, if it stands there. -/
noncomputable def stepG (cs : List ByteArray) (i : Nat) (st : Nat × List (List UInt8)) : Nat × List (List UInt8) := if Goes (flat st.2) (nmL cs i) then (st.1 + 2 ^ i, st.2.tail) else st
noncomputable def runG (cs : List ByteArray) (ps : List (List UInt8)) : Nat → Nat × List (List UInt8)
  | 0 => (0, ps)
  | i + 1 => stepG cs i (runG cs ps i)
theorem runG_yes {cs : List ByteArray} {ps : List (List UInt8)} {i : Nat} (h : Goes (flat (runG cs ps i).2) (nmL cs i)) : runG cs ps (i + 1) = ((runG cs ps i).1 + 2 ^ i, (runG cs ps i).2.tail) := by
  rw [runG, stepG, if_pos h]
theorem runG_no {cs : List ByteArray} {ps : List (List UInt8)} {i : Nat} (h : ¬ Goes (flat (runG cs ps i).2) (nmL cs i)) : runG cs ps (i + 1) = runG cs ps i := by
  rw [runG, stepG, if_neg h]

theorem pcs_add (cs : List ByteArray) {K i : Nat} (hi : i < 64) (hK : K < 2 ^ i) : pcs cs (K + 2 ^ i : Nat) (i + 1) = pcs cs K i ++ [nmL cs i] := by
  have hp : 2 ^ (i + 1) ≤ 18446744073709551616 := by
    have : 2 ^ (i + 1) ≤ 2 ^ 64 := Nat.pow_le_pow_right (by omega) (by omega)
    omega
  have hp2 : 2 ^ (i + 1) = 2 ^ i + 2 ^ i := by rw [Nat.pow_succ]; omega
  have hlow := pcs_same cs (K + 2 ^ i) K (by omega) (by omega) i (fun j hj => by
    have e : 2 ^ i = 2 ^ j * (2 * 2 ^ (i - j - 1)) := by
      rw [← Nat.mul_assoc, ← Nat.pow_succ, ← Nat.pow_add]
      congr 1
      omega
    rw [Nat.add_comm, e, Nat.mul_add_div (Nat.two_pow_pos j)]
    omega)
  have hbit : (K + 2 ^ i) / 2 ^ i % 2 = 1 := by
    rw [Nat.add_div_right _ (Nat.two_pow_pos i), Nat.div_eq_of_lt hK]
  rw [pcs, bit_nat _ i (by omega), hbit, hlow, if_pos (by simp)]
  rfl
section
variable {cs : List ByteArray} {ps : List (List UInt8)} (hc : cs.length ≤ 64) (hn : ∀ s ∈ cs, Free s.data.toList) (hp : ∀ p ∈ ps, Free p)
include hn
theorem nm_free (i : Nat) : Free (nmL cs i) := by
  unfold nmL
  by_cases hi : i < cs.length
  · rw [List.getD, List.getElem?_eq_getElem hi]
    exact hn _ (List.getElem_mem hi)
  · rw [List.getD, List.getElem?_eq_none (by omega)]
    intro c hc
    exact absurd hc List.not_mem_nil
include hc hp
theorem runG_pcs : ∀ i, i ≤ cs.length → ps = pcs cs (runG cs ps i).1 i ++ (runG cs ps i).2 ∧ (runG cs ps i).1 < 2 ^ i ∧ (∀ p ∈ (runG cs ps i).2, Free p)
  | 0, _ => ⟨by simp [runG, pcs], by simp [runG], by simpa [runG] using hp⟩
  | i + 1, hi => by
    obtain ⟨h1, h2, h3⟩ := runG_pcs i (by omega)
    have hp2 : 2 ^ (i + 1) = 2 ^ i + 2 ^ i := by rw [Nat.pow_succ]; omega
    by_cases hg : Goes (flat (runG cs ps i).2) (nmL cs i)
    · obtain ⟨P', hP⟩ := (goes_iff h3 (nm_free hn i)).1 hg
      rw [runG_yes hg]
      rw [hP] at h1 h3 ⊢
      refine ⟨?_, by simp only; omega, fun p hp' => h3 p (by simp at hp' ⊢; exact .inr hp')⟩
      simp only [List.tail_cons]
      rw [pcs_add cs (by omega) h2, List.append_assoc]
      exact h1
    · rw [runG_no hg]
      refine ⟨?_, by omega, h3⟩
      rw [pcs_stop cs _ i (by have : 2 ^ i ≤ 2 ^ 64 := Nat.pow_le_pow_right (by omega) (by omega); omega) h2 1]
      exact h1
end
theorem test_dv (K i : Nat) : K.testBit i = decide (K / 2 ^ i % 2 = 1) := Nat.testBit_eq_decide_div_mod_eq
/-- The names of a label's compartments from the i-th one on. -/
def from_ (cs : List ByteArray) (K : Nat) (i : Nat) : Nat → List (List UInt8)
  | 0 => []
  | d + 1 => if bitB K i = true then nmL cs i :: from_ cs K (i + 1) d else from_ cs K (i + 1) d
theorem pcs_from (cs : List ByteArray) (K : Nat) : ∀ d i, pcs cs K (i + d) = pcs cs K i ++ from_ cs K i d
  | 0, i => by simp [from_]
  | d + 1, i => by
    rw [show i + (d + 1) = (i + 1) + d by omega, pcs_from cs K d (i + 1), pcs, from_]
    split
    · simp [nmL]
    · rfl
theorem mem_from (cs : List ByteArray) (K : Nat) : ∀ d i, ∀ q ∈ from_ cs K i d, ∃ j, i ≤ j ∧ j < i + d ∧ q = nmL cs j
  | 0, i, q, hq => by simp [from_] at hq
  | d + 1, i, q, hq => by
    rw [from_] at hq
    split at hq
    · rcases List.mem_cons.1 hq with rfl | hq
      · exact ⟨i, by omega, by omega, rfl⟩
      · obtain ⟨j, h1, h2, h3⟩ := mem_from cs K d (i + 1) q hq
        exact ⟨j, by omega, by omega, h3⟩
    · obtain ⟨j, h1, h2, h3⟩ := mem_from cs K d (i + 1) q hq
      exact ⟨j, by omega, by omega, h3⟩
theorem nm_inj {zs : List ByteArray} (hd : zs.Nodup) {i j : Nat} (hi : i < zs.length) (hj : j < zs.length) (h : nmL zs i = nmL zs j) : i = j := by
  have e : zs.getD i ByteArray.empty = zs.getD j ByteArray.empty := ByteArray.ext (Array.ext' h)
  have h1 := idxF_at zs i hd hi
  rw [e, idxF_at zs j hd hj] at h1
  exact (Option.some.inj h1).symm
theorem runG_full {cs : List ByteArray} (hc : cs.length ≤ 64) (hn : ∀ s ∈ cs, Free s.data.toList) (hd : cs.Nodup) {K : Nat} (hK : K < 2 ^ cs.length) (hp : ∀ p ∈ pcs cs K cs.length, Free p) :
    ∀ i, i ≤ cs.length → (runG cs (pcs cs K cs.length) i).1 = K % 2 ^ i
  | 0, _ => by simp [runG, Nat.mod_one]
  | i + 1, hi => by
    have ih := runG_full hc hn hd hK hp i (by omega)
    obtain ⟨h1, h2, h3⟩ := runG_pcs hc hn hp i (by omega)
    have hp64 : 2 ^ cs.length ≤ 18446744073709551616 := by
      have : 2 ^ cs.length ≤ 2 ^ 64 := Nat.pow_le_pow_right (by omega) hc
      omega
    obtain ⟨d, hd'⟩ : ∃ d, cs.length = i + (d + 1) := ⟨cs.length - i - 1, by omega⟩
    have hsame : pcs cs (runG cs (pcs cs K cs.length) i).1 i = pcs cs K i := by
      rw [ih]
      refine pcs_same cs _ _ (by have := Nat.mod_le K (2 ^ i); omega) (by omega) i fun j hj => ?_
      have t1 := test_dv (K % 2 ^ i) j
      have t2 := test_dv K j
      rw [Nat.testBit_mod_two_pow, decide_eq_true hj, Bool.true_and, t2] at t1
      have := decide_eq_decide.1 t1
      omega
    rw [hsame] at h1
    have hfr : (runG cs (pcs cs K cs.length) i).2 = from_ cs K i (d + 1) := by
      have e : pcs cs K cs.length = pcs cs K i ++ from_ cs K i (d + 1) := by
        conv => lhs; rw [hd']
        exact pcs_from cs K (d + 1) i
      rw [e] at h1
      conv at h1 => rhs; rw [← e]
      exact (List.append_cancel_left h1).symm
    have hs := Nat.mod_pow_succ (x := K) (b := 2) (k := i)
    by_cases hb : bitB (K : Int) i = true
    · have hg : Goes (flat (runG cs (pcs cs K cs.length) i).2) (nmL cs i) := by
        rw [goes_iff h3 (nm_free hn i), hfr, from_, if_pos hb]
        exact ⟨_, rfl⟩
      rw [runG_yes hg]
      rw [bit_nat K i (by omega), decide_eq_true_eq] at hb
      simp only
      rw [ih, hs, hb]
      omega
    · have hg : ¬ Goes (flat (runG cs (pcs cs K cs.length) i).2) (nmL cs i) := by
        rw [goes_iff h3 (nm_free hn i), hfr, from_, if_neg hb]
        rintro ⟨P', hP⟩
        obtain ⟨j, hj1, hj2, hj3⟩ := mem_from cs K d (i + 1) (nmL cs i) (by rw [hP]; simp)
        have := nm_inj hd (by omega) (by omega) hj3
        omega
      rw [runG_no hg]
      rw [bit_nat K i (by omega), decide_eq_true_eq] at hb
      have h0 : K / 2 ^ i % 2 = 0 := by omega
      rw [ih, hs, h0]
      omega
/-- What taking names off comes to. -/
theorem runG_comps {cs : List ByteArray} (hc : cs.length ≤ 64) (hn : ∀ s ∈ cs, Free s.data.toList) (hd : cs.Nodup) (r : List UInt8) :
    compsF (idxF cs) (splitB 47 r) = if (runG cs (splitB 47 r) cs.length).2 = [] then some ((runG cs (splitB 47 r) cs.length).1 : Int) else none := by
  obtain ⟨h1, h2, h3⟩ := runG_pcs hc hn (split_free r) cs.length (Nat.le_refl _)
  have hp64 : 2 ^ cs.length ≤ 18446744073709551616 := by
      have : 2 ^ cs.length ≤ 2 ^ 64 := Nat.pow_le_pow_right (by omega) hc
      omega
  by_cases he : (runG cs (splitB 47 r) cs.length).2 = []
  · rw [if_pos he]
    rw [he, List.append_nil] at h1
    generalize (runG cs (splitB 47 r) cs.length).1 = K at h1 h2
    rw [h1, comps_pcs cs hd K (by omega) hc cs.length (Nat.le_refl _), Nat.mod_eq_of_lt h2]
  · rw [if_neg he]
    cases hcm : compsF (idxF cs) (splitB 47 r) with
    | none => rfl
    | some c =>
      obtain ⟨K, rfl, hK, hp⟩ := comps_back cs hc _ _ rfl c hcm
      have hf := split_free r
      rw [← hp] at he h1 hf
      have := runG_full hc hn hd hK hf cs.length (Nat.le_refl _)
      rw [Nat.mod_eq_of_lt hK] at this
      rw [this] at h1
      exact absurd (by simpa using h1) he

/-- The text is the level's name, alone or with compartments behind it. -/
def Hit (ls : List ByteArray) (s : List UInt8) (v : Nat) : Prop := s = nmL ls v ∨ ∃ r, r ≠ [] ∧ s = nmL ls v ++ 47 :: 47 :: r
section
variable {ls cs : List ByteArray} (hr : rightB ls cs = true)
include hr
theorem right_nodup : ls.Nodup ∧ cs.Nodup := by
  unfold rightB goodB at hr
  simp only [Bool.and_eq_true, decide_eq_true_eq] at hr
  obtain ⟨h1, h2, _⟩ := List.nodup_append.1 hr.2.1
  exact ⟨h1, h2⟩
theorem right_free : (∀ s ∈ ls, Free s.data.toList) ∧ ∀ s ∈ cs, Free s.data.toList := ⟨fun s hs => right_name hr s (List.mem_append_left _ hs), fun s hs => right_name hr s (List.mem_append_right _ hs)⟩
theorem right_long : ∀ s ∈ cs, s.data.toList ≠ [] := by
  unfold rightB goodB at hr
  simp only [Bool.and_eq_true, List.all_eq_true] at hr
  intro s hs e
  have := hr.2.2 s (List.mem_append_right _ hs)
  rw [e] at this
  simp [nameB] at this
theorem parse_bare {v : Nat} (hv : v < ls.length) : parseF (idxF ls) (idxF cs) (nmL ls v) = some (v, 0) := by
  unfold parseF
  rw [cut_bare _ (nm_free (right_free hr).1 v)]
  have : idxF ls ⟨(nmL ls v).toArray⟩ = some v := by
    rw [show (⟨(nmL ls v).toArray⟩ : ByteArray) = ls.getD v ByteArray.empty from by simp [nmL]]
    exact idxF_at ls v (right_nodup hr).1 hv
  simp [this]
theorem parse_with {v : Nat} (hv : v < ls.length) (r : List UInt8) : parseF (idxF ls) (idxF cs) (nmL ls v ++ 47 :: 47 :: r) = if (runG cs (splitB 47 r) cs.length).2 = [] then some (v, ((runG cs (splitB 47 r) cs.length).1 : Int)) else none := by
  unfold parseF
  rw [cut_name _ r (nm_free (right_free hr).1 v)]
  have : idxF ls ⟨(nmL ls v).toArray⟩ = some v := by
    rw [show (⟨(nmL ls v).toArray⟩ : ByteArray) = ls.getD v ByteArray.empty from by simp [nmL]]
    exact idxF_at ls v (right_nodup hr).1 hv
  simp only [this, if_true]
  rw [runG_comps (right_comps hr) (right_free hr).2 (right_nodup hr).2]
  by_cases he : (runG cs (splitB 47 r) cs.length).2 = []
  · rw [if_pos he, if_pos he]
  · rw [if_neg he, if_neg he]
theorem parse_hit {s : List UInt8} {L : Nat} {c : Int} (h : parseF (idxF ls) (idxF cs) s = some (L, c)) : L < ls.length ∧ Hit ls s L := by
  obtain ⟨h1, h2, _⟩ := text_parse (right_comps hr) s L c h
  refine ⟨by unfold hasB at h2; simp only [Bool.and_eq_true, decide_eq_true_eq] at h2; omega, ?_⟩
  unfold textT at h1
  rw [tail_pcs, Int.toNat_natCast] at h1
  split at h1
  · left
    rw [List.append_nil] at h1
    exact h1.symm
  · rename_i hne
    right
    cases hq : pcs cs c cs.length with
    | nil => exact absurd hq hne
    | cons q qs =>
      rw [hq, List.flatMap_cons, List.cons_append] at h1
      refine ⟨q ++ qs.flatMap (fun p => 47 :: p), ?_, h1.symm⟩
      obtain ⟨x, hx, rfl⟩ := mem_pcs cs c cs.length (Nat.le_refl _) q (by rw [hq]; simp)
      intro e
      exact right_long hr x hx (List.append_eq_nil_iff.1 e).1
end
end Go.Proofs.YtkjiaklpffnhlaaDoor
