/-
  A list of strings that is handed over, opened, with what the reach says of each.
-/
import Derived.Test.YtflmbihdmmfcpaaLists3
import Derived.SizedLaws
namespace Go.Proofs.Ytflmbihdmmfcpaa
set_option maxRecDepth 100000
open Go.ChangeShapes Go.WideShapes Go.ChangeAt Go.RowKit Go.Joins

section
variable {H : Type} {enc : TypeId × Value → H} {W : World} {base : Nat} {v : Value} {d : DataW H} {p : List MemPlace}
theorem weights_all {P : Program} {e : TypeId} : ∀ {l : List (DataW H)} {d : DataW H}, d ∈ l → ∀ n ∈ d.weights P e, n ∈ DataW.weightsAll P e l
  | x :: l, d, hd, n, hn => by
    rw [DataW.weightsAll]
    rcases List.mem_cons.1 hd with rfl | hd
    · exact List.mem_append_left _ hn
    · exact List.mem_append_right _ (weights_all hd n hn)
theorem open_list6 {ts : List TypeId} {ds : List (DataW H)} (hsz : (DataW.weightsEach Try.prog (22 :: ts) (d :: ds)).all (· ≤ reachBytes) = true) (hv : Value.okWide Try.prog W .any base 22 v) (h : DataW.Trod enc Try.prog W 0 (fun _ => true) true 22 v d p) :
    ∃ A n c ss, v = .slice A n c ∧ Strs W W.heap.size A n c ss ∧ ∀ s ∈ ss, s.size ≤ 140737488351232 := by
  obtain ⟨a, l, c, rfl⟩ := okWide_slice Try.underlying22 hv
  obtain ⟨n, h⟩ := h
  have h2 : DataW.trod enc Try.prog W 0 (fun _ => true) true n 22 [.slice a l c] = some (d, p) := by simpa [Value.cells] using h
  rcases open_strings Try.underlying22 Try.underlying9 (by kernel_rfl) h2 with ⟨hcs, _⟩ | ⟨ad, len, cap, ss, hcs, _, hl, hm, hz, hx, hcell, hs⟩
  · simp only [List.cons.injEq, and_true] at hcs
    exact ⟨none, 0, 0, [], hcs, ⟨rfl, .inl ⟨rfl, rfl, rfl⟩⟩, by simp⟩
  · obtain ⟨A, len', cap', ss', e', h1', _⟩ := open_list (c0 := .slice a l c) h2
    simp only [List.cons.injEq, and_true] at hcs
    have hxd := (Prod.mk.inj hx).1
    subst hxd
    simp only [if_true] at hz
    have hwt : ∀ s ∈ ss.take len, s.size ≤ 140737488351232 := by
      intro s hmem
      have hin : (DataW.lit (.string s.data.toList) : DataW H) ∈ strs (ss.take len) := by
        unfold strs
        exact List.mem_map.2 ⟨s, hmem, rfl⟩
      have h3 := List.all_eq_true.1 hsz s.data.toList.length (by
        rw [DataW.weightsEach, DataW.weights, Try.underlying22]
        refine List.mem_append_left _ (List.mem_cons_of_mem _ (List.mem_append_left _ (weights_all hin _ ?_)))
        simp [DataW.weights])
      have h4 : s.data.toList.length = s.size := rfl
      simpa [reachBytes, h4] using h3
    refine ⟨some ad, len, cap, ss.take len, hcs, ?_, hwt⟩
    refine ⟨by rw [List.length_take]; omega, .inr ⟨ad, rfl, ?_⟩⟩
    rcases Nat.eq_zero_or_pos len with h0 | h0
    · exact .inl h0
    · have hc0 := hcell 0 (by omega)
      have hadd : ad.add 0 = ad := by simp [Addr.add]
      rw [hadd] at hc0
      have hsp := cell_spot hc0
      obtain ⟨b, off, sp⟩ := ad
      obtain rfl : sp = none := hsp
      have hblt : b < W.heap.size := by
        rcases Nat.lt_or_ge b W.heap.size with h1 | h1
        · exact h1
        · rw [World.cell?, Array.getElem?_eq_none h1] at hc0
          simp at hc0
      refine .inr ⟨b, off, rfl, hblt, fun j hj => ?_⟩
      have hcj := hcell j (by omega)
      have e : (⟨b, off, none⟩ : Addr).add j = ⟨b, off + j, none⟩ := by
        unfold Addr.add
        split <;> simp_all
      rw [e] at hcj
      rw [hcj, getD_take_lt _ _ _ _ hj]
end
end Go.Proofs.Ytflmbihdmmfcpaa
