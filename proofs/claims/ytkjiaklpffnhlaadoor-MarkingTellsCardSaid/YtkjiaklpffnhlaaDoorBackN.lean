/-
  What is parsed is printed back: of the plain functions that tell what Parse and Print answer.
-/
import Derived.Test.YtkjiaklpffnhlaaDoorBackM
namespace Go.Proofs.YtkjiaklpffnhlaaDoor
open Go.RowKit

theorem index_at (sub : List UInt8) : ∀ (s : List UInt8) (i : Nat), Lib.index s sub = i → s = s.take i ++ (sub ++ s.drop (i + sub.length))
  | [], i, h => by
    unfold Lib.index at h
    cases sub with
    | nil => simp
    | cons b l => simp at h
  | b :: s, i, h => by
    unfold Lib.index at h
    split at h
    · rename_i hp
      obtain rfl : i = 0 := by omega
      obtain ⟨t, ht⟩ := List.isPrefixOf_iff_prefix.1 hp
      rw [← ht]
      simp
    · split at h
      · omega
      · obtain ⟨j, hj⟩ : ∃ j : Nat, Lib.index s sub = j := ⟨(i - 1 : Nat), by have := Lib.index_ge s sub; simp at *; omega⟩
        have ih := index_at sub s j hj
        obtain rfl : i = j + 1 := by omega
        have e : j + 1 + sub.length = (j + sub.length) + 1 := by omega
        rw [e, List.take_succ_cons, List.drop_succ_cons, List.cons_append, ← ih]

theorem split_join : ∀ r : List UInt8, ∃ q qs, splitB 47 r = q :: qs ∧ r = q ++ qs.flatMap (fun p => 47 :: p)
  | [] => ⟨[], [], rfl, rfl⟩
  | b :: r => by
    obtain ⟨q, qs, h1, h2⟩ := split_join r
    by_cases hb : b = 47
    · exact ⟨[], q :: qs, by rw [splitB, if_pos hb, h1], by rw [hb]; simp [← h2]⟩
    · exact ⟨b :: q, qs, by rw [splitB, if_neg hb, h1]; rfl, by rw [List.cons_append, ← h2]⟩

theorem pcs_same (cs : List ByteArray) (K K' : Nat) (hK : K < 18446744073709551616) (hK' : K' < 18446744073709551616) : ∀ i, (∀ j, j < i → K / 2 ^ j % 2 = K' / 2 ^ j % 2) → pcs cs K i = pcs cs K' i
  | 0, _ => rfl
  | i + 1, h => by
    rw [pcs, pcs, pcs_same cs K K' hK hK' i (fun j hj => h j (by omega)), bit_nat K i hK, bit_nat K' i hK', h i (by omega)]
theorem pcs_stop (cs : List ByteArray) (K b : Nat) (hK : K < 18446744073709551616) (hb : K < 2 ^ b) : ∀ d, pcs cs K (b + d) = pcs cs K b
  | 0 => rfl
  | d + 1 => by
    have h0 : K / 2 ^ (b + d) = 0 := Nat.div_eq_of_lt (Nat.lt_of_lt_of_le hb (Nat.pow_le_pow_right (by omega) (by omega)))
    rw [show b + (d + 1) = (b + d) + 1 from rfl, pcs, bit_nat K (b + d) hK, h0, if_neg (by simp), pcs_stop cs K b hK hb d]

theorem comps_back (cs : List ByteArray) (hc : cs.length ≤ 64) (ps : List (List UInt8)) : ∀ n, ps.length = n → ∀ c, compsF (idxF cs) ps = some c → ∃ K : Nat, c = K ∧ K < 2 ^ cs.length ∧ pcs cs K cs.length = ps := by
  intro n
  induction n generalizing ps with
  | zero =>
    intro h c hcm
    obtain rfl := List.eq_nil_of_length_eq_zero h
    refine ⟨0, by simpa [compsF] using hcm.symm, Nat.two_pow_pos _, ?_⟩
    have := pcs_stop cs 0 0 (by omega) (by simp) cs.length
    simpa [pcs] using this
  | succ n ih =>
    intro h c hcm
    obtain ⟨qs, q, rfl⟩ : ∃ qs q, ps = qs ++ [q] := ⟨ps.dropLast, ps.getLast (by intro e; simp [e] at h), (List.dropLast_concat_getLast (by intro e; simp [e] at h)).symm⟩
    rw [compsF_snoc] at hcm
    cases ha : compsF (idxF cs) qs with
    | none => rw [ha] at hcm; simp [compStep] at hcm
    | some a =>
      rw [ha] at hcm
      obtain ⟨K, rfl, hK, hp⟩ := ih qs (by simpa using h) a ha
      unfold compStep at hcm
      cases hi : idxF cs ⟨q.toArray⟩ with
      | none => simp [hi] at hcm
      | some b =>
        simp only [hi] at hcm
        obtain ⟨hbl, hbn⟩ := idxF_lt cs _ b hi
        have hpb : 2 ^ b < 18446744073709551616 := Nat.pow_lt_pow_right (a := 2) (n := 64) (by omega) (by omega)
        have hpl : 2 ^ cs.length ≤ 18446744073709551616 := Nat.pow_le_pow_right (n := 2) (by omega) hc
        have hpi : ((2 ^ b : Nat) : Int) = (2 : Int) ^ b := by push_cast; rfl
        split at hcm
        · rename_i hz
          rw [← hpi] at hz
          have hz' : K / 2 ^ b = 0 := by exact_mod_cast hz
          have hKb : K < 2 ^ b := (Nat.div_eq_zero_iff_lt (Nat.two_pow_pos _)).1 hz'
          have hw : IntKind.u64.wrap ((2 : Int) ^ b) = ((2 ^ b : Nat) : Int) := by
            rw [IntKind.wrap_u64, ← hpi]
            exact Int.emod_eq_of_lt (Int.natCast_nonneg _) (by omega)
          have hor : orBit (K : Int) b = ((2 ^ b + K : Nat) : Int) := by
            unfold orBit
            rw [hw, u64_or_nat _ _ (by omega) hpb, Nat.or_comm, nat_join b (2 ^ b) K (Nat.mod_self _) hKb]
          have hb1 : 2 ^ (b + 1) ≤ 2 ^ cs.length := Nat.pow_le_pow_right (by omega) (by omega)
          have hb2 : 2 ^ (b + 1) = 2 * 2 ^ b := by rw [Nat.pow_succ]; omega
          have hN : 2 ^ b + K < 2 ^ (b + 1) := by omega
          refine ⟨2 ^ b + K, by rw [← hor]; exact (Option.some.inj hcm).symm, by omega, ?_⟩
          obtain ⟨d, hd⟩ : ∃ d, cs.length = (b + 1) + d := ⟨cs.length - (b + 1), by omega⟩
          obtain ⟨d', hd'⟩ : ∃ d', cs.length = b + d' := ⟨cs.length - b, by omega⟩
          rw [hd, pcs_stop cs (2 ^ b + K) (b + 1) (by omega) hN d]
          have hlow := pcs_same cs (2 ^ b + K) K (by omega) (by omega) b (fun j hj => by
            have e : 2 ^ b = 2 ^ j * (2 * 2 ^ (b - j - 1)) := by
              rw [← Nat.mul_assoc, ← Nat.pow_succ, ← Nat.pow_add]
              congr 1
              omega
            rw [e, Nat.mul_add_div (Nat.two_pow_pos j)]
            omega)
          have hbit : (2 ^ b + K) / 2 ^ b % 2 = 1 := by
            rw [Nat.add_div_left _ (Nat.two_pow_pos b), hz']
          rw [pcs, bit_nat _ b (by omega), hbit, hlow, if_pos (by simp), hbn]
          have : pcs cs K b = qs := by rw [← hp, hd', pcs_stop cs K b (by omega) hKb d']
          rw [this]
        · simp at hcm

theorem tail_nil (cs : List ByteArray) : ∀ i, tailT cs 0 i = []
  | 0 => rfl
  | i + 1 => by
    have hb : bitB 0 i = false := by
      have := bit_nat 0 i (by omega)
      simpa using this
    rw [tailT_no hb, tail_nil cs i]

/-- WHAT IS PARSED IS PRINTED BACK, and it is a label of the lattice. -/
theorem text_parse {ls cs : List ByteArray} (hc : cs.length ≤ 64) (s : List UInt8) (L : Nat) (c : Int) (h : parseF (idxF ls) (idxF cs) s = some (L, c)) : textT ls cs L c = s ∧ hasB ls.length cs.length L c = true ∧ 0 ≤ c ∧ c < 18446744073709551616 := by
  unfold parseF at h
  cases hi : idxF ls ⟨(Lib.cut s [47, 47]).1.toArray⟩ with
  | none => simp [hi] at h
  | some l =>
    simp only [hi] at h
    obtain ⟨hl, hn⟩ := idxF_lt ls _ l hi
    have hnm : (ls.getD l ByteArray.empty).data.toList = (Lib.cut s [47, 47]).1 := by rw [hn]
    have hs : Lib.cut s [47, 47] = (s.take (Lib.index s [47, 47]).toNat, s.drop ((Lib.index s [47, 47]).toNat + 2), true) ∧ 0 ≤ Lib.index s [47, 47] ∨ Lib.cut s [47, 47] = (s, [], false) := by
      unfold Lib.cut
      split
      · exact .inl ⟨rfl, by assumption⟩
      · exact .inr rfl
    rcases hs with ⟨hcut, h0⟩ | hcut
    · rw [hcut] at h hnm
      simp only [if_true] at h
      cases hcm : compsF (idxF cs) (splitB 47 (s.drop ((Lib.index s [47, 47]).toNat + 2))) with
      | none => simp [hcm] at h
      | some c' =>
        simp only [hcm, Option.some.injEq, Prod.mk.injEq] at h
        obtain ⟨rfl, rfl⟩ := h
        obtain ⟨K, rfl, hK, hp⟩ := comps_back cs hc _ _ rfl c' hcm
        obtain ⟨q, qs, hq1, hq2⟩ := split_join (s.drop ((Lib.index s [47, 47]).toNat + 2))
        have hat := index_at [47, 47] s (Lib.index s [47, 47]).toNat (by omega)
        have hpl : 2 ^ cs.length ≤ 18446744073709551616 := Nat.pow_le_pow_right (n := 2) (by omega) hc
        refine ⟨?_, ?_, by omega, by omega⟩
        · unfold textT
          rw [Int.toNat_natCast, hnm, tail_pcs, hp, hq1, if_neg (by simp), List.flatMap_cons, List.cons_append, ← hq2]
          exact hat.symm
        · unfold hasB
          rw [Nat.min_eq_left hc]
          have hz : K / 2 ^ cs.length = 0 := Nat.div_eq_of_lt hK
          have hpi : ((2 ^ cs.length : Nat) : Int) = (2 : Int) ^ cs.length := by push_cast; rfl
          have hz' : (K : Int) / 2 ^ cs.length = 0 := by rw [← hpi]; exact_mod_cast hz
          simp [hz']
          omega
    · rw [hcut] at h hnm
      simp only [Bool.false_eq_true, if_false, Option.some.injEq, Prod.mk.injEq] at h
      obtain ⟨rfl, rfl⟩ := h
      refine ⟨?_, ?_, by omega, by omega⟩
      · unfold textT
        rw [Int.toNat_natCast, hnm, tail_nil, List.append_nil]
      · unfold hasB
        simp
        omega
end Go.Proofs.YtkjiaklpffnhlaaDoor
