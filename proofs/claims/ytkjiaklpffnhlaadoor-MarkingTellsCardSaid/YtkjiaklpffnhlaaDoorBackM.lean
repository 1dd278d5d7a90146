/-
  A printed label is parsed back to itself: of the plain functions that tell what Print and Parse answer.
-/
import Derived.Test.YtkjiaklpffnhlaaDoorParseL
import Derived.Laws.BitsAllLaws
namespace Go.Proofs.YtkjiaklpffnhlaaDoor
open Go.RowKit

theorem index_name (r : List UInt8) : ∀ a : List UInt8, (∀ c ∈ a, c ≠ 47) → Lib.index (a ++ 47 :: 47 :: r) [47, 47] = a.length
  | [], _ => by simp [Lib.index, List.isPrefixOf]
  | b :: a, h => by
    have hb : b ≠ 47 := h b (by simp)
    have ih := index_name r a (fun c hc => h c (by simp [hc]))
    have hp : List.isPrefixOf [47, 47] (b :: (a ++ 47 :: 47 :: r)) = false := by simp [List.isPrefixOf] <;> (intro e; exact absurd e.symm hb)
    rw [List.cons_append, Lib.index, hp, ih]
    have : ¬ ((a.length : Int) == -1) = true := by simp <;> omega
    simp [this]
theorem index_bare : ∀ a : List UInt8, (∀ c ∈ a, c ≠ 47) → Lib.index a [47, 47] = -1
  | [], _ => by simp [Lib.index]
  | b :: a, h => by
    have hb : b ≠ 47 := h b (by simp)
    have ih := index_bare a (fun c hc => h c (by simp [hc]))
    have hp : List.isPrefixOf [47, 47] (b :: a) = false := by simp [List.isPrefixOf] <;> (intro e; exact absurd e.symm hb)
    rw [Lib.index, hp, ih]
    simp
theorem cut_name (a r : List UInt8) (h : ∀ c ∈ a, c ≠ 47) : Lib.cut (a ++ 47 :: 47 :: r) [47, 47] = (a, r, true) := by
  unfold Lib.cut
  rw [index_name r a h, if_pos (by omega)]
  simp
theorem cut_bare (a : List UInt8) (h : ∀ c ∈ a, c ≠ 47) : Lib.cut a [47, 47] = (a, [], false) := by
  unfold Lib.cut
  rw [index_bare a h, if_neg (by omega)]

theorem split_bare : ∀ p : List UInt8, (∀ c ∈ p, c ≠ 47) → splitB 47 p = [p]
  | [], _ => rfl
  | b :: p, h => by
    have hb : b ≠ 47 := h b (by simp)
    rw [splitB, if_neg hb, split_bare p (fun c hc => h c (by simp [hc]))]
    rfl
theorem split_app (r : List UInt8) : ∀ p : List UInt8, (∀ c ∈ p, c ≠ 47) → splitB 47 (p ++ 47 :: r) = p :: splitB 47 r
  | [], _ => by simp [splitB]
  | b :: p, h => by
    have hb : b ≠ 47 := h b (by simp)
    rw [List.cons_append, splitB, if_neg hb, split_app r p (fun c hc => h c (by simp [hc]))]
    rfl
theorem split_pieces : ∀ (ps : List (List UInt8)) (p : List UInt8), (∀ q ∈ p :: ps, ∀ c ∈ q, c ≠ 47) → splitB 47 (p ++ ps.flatMap (fun q => 47 :: q)) = p :: ps
  | [], p, h => by simpa using split_bare p (h p (by simp))
  | q :: ps, p, h => by
    rw [List.flatMap_cons, List.cons_append, split_app _ p (h p (by simp)), split_pieces ps q (fun x hx => h x (by simp [List.mem_cons.1 hx]))]

/-- The names of a label's compartments, up to the i-th one. -/
def pcs (cs : List ByteArray) (k : Int) : Nat → List (List UInt8)
  | 0 => []
  | i + 1 => if bitB k i = true then pcs cs k i ++ [(cs.getD i ByteArray.empty).data.toList] else pcs cs k i
theorem tail_pcs (cs : List ByteArray) (k : Int) : ∀ i, tailT cs k i = if pcs cs k i = [] then [] else 47 :: (pcs cs k i).flatMap (fun q => 47 :: q)
  | 0 => by simp [tailT, pcs]
  | i + 1 => by
    have ih := tail_pcs cs k i
    cases hb : bitB k i with
    | false => rw [tailT_no hb, ih, pcs, hb]; simp
    | true =>
      rw [tailT_yes hb, ih, pcs, hb]
      by_cases h : pcs cs k i = []
      · simp [h]
      · simp [h]
theorem mem_pcs (cs : List ByteArray) (k : Int) : ∀ i, i ≤ cs.length → ∀ q ∈ pcs cs k i, ∃ s ∈ cs, q = s.data.toList
  | 0, _, q, h => by simp [pcs] at h
  | i + 1, hi, q, h => by
    have ih := mem_pcs cs k i (by omega) q
    unfold pcs at h
    split at h
    · rcases List.mem_append.1 h with h | h
      · exact ih h
      · refine ⟨cs.getD i ByteArray.empty, ?_, by simpa using h⟩
        rw [List.getD, List.getElem?_eq_getElem (by omega)]
        exact List.getElem_mem (by omega)
    · exact ih h

theorem idxF_at : ∀ (zs : List ByteArray) (i : Nat), zs.Nodup → i < zs.length → idxF zs (zs.getD i ByteArray.empty) = some i
  | [], i, _, h => by simp at h
  | z :: zs, 0, _, _ => by simp [idxF]
  | z :: zs, i + 1, hn, h => by
    have hn' := List.nodup_cons.1 hn
    have hi : i < zs.length := by simpa using h
    have ih := idxF_at zs i hn'.2 hi
    have hmem : zs.getD i ByteArray.empty ∈ zs := by
      rw [List.getD, List.getElem?_eq_getElem hi]
      exact List.getElem_mem hi
    have hne : z ≠ zs.getD i ByteArray.empty := fun e => hn'.1 (e ▸ hmem)
    have e1 : (z :: zs).getD (i + 1) ByteArray.empty = zs.getD i ByteArray.empty := by simp [List.getD]
    rw [e1, idxF, if_neg hne, ih]
    rfl

theorem bit_nat (K i : Nat) (hK : K < 18446744073709551616) : bitB (K : Int) i = decide (K / 2 ^ i % 2 = 1) := by
  unfold bitB
  have e : ((K : Int) / 2 ^ i) = ((K / 2 ^ i : Nat) : Int) := by push_cast; rfl
  rw [e, show (1 : Int) = ((1 : Nat) : Int) from rfl, u64_and_nat _ _ (Nat.lt_of_le_of_lt (Nat.div_le_self _ _) hK) (by omega), Nat.and_one_is_mod]
  by_cases h : K / 2 ^ i % 2 = 1
  · simp [h]
  · have h0 : K / 2 ^ i % 2 = 0 := by omega
    simp [h0]
theorem comps_pcs (cs : List ByteArray) (hn : cs.Nodup) (K : Nat) (hK : K < 18446744073709551616) (hc : cs.length ≤ 64) : ∀ i, i ≤ cs.length → compsF (idxF cs) (pcs cs K i) = some ((K % 2 ^ i : Nat) : Int)
  | 0, _ => by simp [pcs, compsF, Nat.mod_one]
  | i + 1, hi => by
    have ih := comps_pcs cs hn K hK hc i (by omega)
    have hp : 2 ^ i < 18446744073709551616 := Nat.pow_lt_pow_right (a := 2) (n := 64) (by omega) (by omega)
    have hlt : K % 2 ^ i < 2 ^ i := Nat.mod_lt _ (Nat.two_pow_pos i)
    have hs := Nat.mod_pow_succ (x := K) (b := 2) (k := i)
    cases hb : bitB (K : Int) i with
    | false =>
      rw [bit_nat K i hK] at hb
      have h0 : K / 2 ^ i % 2 = 0 := by have := of_decide_eq_false hb; omega
      rw [pcs, bit_nat K i hK, hb, if_neg (by simp), ih, hs, h0]
      simp
    | true =>
      have hb' := hb
      rw [bit_nat K i hK] at hb
      have h1 : K / 2 ^ i % 2 = 1 := of_decide_eq_true hb
      rw [pcs, hb', if_pos rfl, compsF_snoc, ih, hs, h1]
      have hi' : idxF cs ⟨(cs.getD i ByteArray.empty).data.toList.toArray⟩ = some i := by
        rw [show (⟨(cs.getD i ByteArray.empty).data.toList.toArray⟩ : ByteArray) = cs.getD i ByteArray.empty from by simp]
        exact idxF_at cs i hn (by omega)
      have hpi : ((2 ^ i : Nat) : Int) = (2 : Int) ^ i := by push_cast; rfl
      have hdiv : ((K % 2 ^ i : Nat) : Int) / 2 ^ i = 0 := by
        rw [← hpi]
        exact Int.ediv_eq_zero_of_lt (Int.natCast_nonneg _) (Int.ofNat_lt.2 hlt)
      simp only [compStep, hi', hdiv, if_true]
      congr 1
      unfold orBit
      have hw : IntKind.u64.wrap ((2 : Int) ^ i) = ((2 ^ i : Nat) : Int) := by
        rw [IntKind.wrap_u64]
        rw [← hpi]
        exact Int.emod_eq_of_lt (Int.natCast_nonneg _) (by omega)
      rw [hw, u64_or_nat _ _ (by omega) hp, Nat.or_comm, nat_join i (2 ^ i) (K % 2 ^ i) (Nat.mod_self _) hlt]
      congr 1
      omega

theorem name_slash {s : List UInt8} (h : nameB s = true) : ∀ c ∈ s, c ≠ 47 := by
  intro c hc e
  subst e
  unfold nameB allOk at h
  simp only [Bool.and_eq_true, List.all_eq_true] at h
  have := h.2 47 hc
  revert this
  decide
theorem right_name {ls cs : List ByteArray} (h : rightB ls cs = true) : ∀ s ∈ ls ++ cs, ∀ c ∈ s.data.toList, c ≠ 47 := by
  unfold rightB goodB at h
  simp only [Bool.and_eq_true, List.all_eq_true] at h
  exact fun s hs => name_slash (h.2.2 s hs)

/-- WHAT WAS PRINTED IS PARSED BACK. -/
theorem parse_text {ls cs : List ByteArray} {l k : Int} (hr : rightB ls cs = true) (hk0 : 0 ≤ k) (hk : k < 18446744073709551616) (hh : hasB ls.length cs.length l k = true) :
    parseF (idxF ls) (idxF cs) (textT ls cs l k) = some (l.toNat, k) := by
  have hsl := right_name hr
  have hc64 := right_comps hr
  have hnd : (ls ++ cs).Nodup := by
    unfold rightB goodB at hr
    simp only [Bool.and_eq_true, decide_eq_true_eq] at hr
    exact hr.2.1
  obtain ⟨hn1, hn2, _⟩ := List.nodup_append.1 hnd
  unfold hasB at hh
  simp only [Bool.and_eq_true, decide_eq_true_eq, beq_iff_eq] at hh
  obtain ⟨⟨hl0, hl1⟩, hz⟩ := hh
  rw [Nat.min_eq_left hc64] at hz
  obtain ⟨K, rfl⟩ := Int.eq_ofNat_of_zero_le hk0
  have hK : K < 18446744073709551616 := by omega
  have hKz : K / 2 ^ cs.length = 0 := by
    have hpi : ((2 ^ cs.length : Nat) : Int) = (2 : Int) ^ cs.length := by push_cast; rfl
    rw [← hpi] at hz
    exact_mod_cast hz
  have hKlt : K < 2 ^ cs.length := (Nat.div_eq_zero_iff_lt (Nat.two_pow_pos _)).1 hKz
  have hKm : K % 2 ^ cs.length = K := Nat.mod_eq_of_lt hKlt
  have hcomp := comps_pcs cs hn2 K hK hc64 cs.length (Nat.le_refl _)
  rw [hKm] at hcomp
  have hlt : l.toNat < ls.length := by omega
  have hname : ∀ c ∈ (ls.getD l.toNat ByteArray.empty).data.toList, c ≠ 47 := hsl _ (List.mem_append_left _ (by rw [List.getD, List.getElem?_eq_getElem hlt]; exact List.getElem_mem hlt))
  have hat : idxF ls ⟨(ls.getD l.toNat ByteArray.empty).data.toList.toArray⟩ = some l.toNat := by
    rw [show (⟨(ls.getD l.toNat ByteArray.empty).data.toList.toArray⟩ : ByteArray) = ls.getD l.toNat ByteArray.empty from by simp]
    exact idxF_at ls _ hn1 hlt
  have hps : ∀ q ∈ pcs cs K cs.length, ∀ c ∈ q, c ≠ 47 := fun q hq => by
    obtain ⟨s, hs, rfl⟩ := mem_pcs cs K cs.length (Nat.le_refl _) q hq
    exact hsl s (List.mem_append_right _ hs)
  unfold textT parseF
  rw [tail_pcs]
  cases hp : pcs cs K cs.length with
  | nil =>
    rw [hp] at hcomp
    have hK0 : (K : Int) = 0 := by simpa [compsF] using hcomp.symm
    rw [if_pos rfl, List.append_nil, cut_bare _ hname]
    simp only [hat]
    simp [hK0]
  | cons p ps =>
    rw [hp] at hcomp hps
    rw [if_neg (by simp), List.flatMap_cons, List.cons_append, cut_name _ _ hname]
    simp only [hat, if_true]
    rw [split_pieces ps p hps, hcomp]
end Go.Proofs.YtkjiaklpffnhlaaDoor
