/-
  HeaderLines: the walk.
-/
import Derived.Test.YtneihcdeflfahaaDoorH10D
import Derived.Test.YtneihcdeflfahaaDoorAwake10
namespace Go.Proofs.YtneihcdeflfahaaDoor
open Go.RowKit

/-- A header's lines, the empty one too: no line is long, none but the last is empty, none has a 13. -/
structure LinesOk (L : List TextH) : Prop where
  ne : L ≠ []
  short : ∀ x ∈ L, x.length ≤ 998
  clean : ∀ x ∈ L, ∀ c ∈ x, c ≠ 13
  last : ∀ done x rest, L = done ++ x :: rest → (x = [] ↔ rest = [])
theorem header_lines {l : List FieldH} (h : (printH l).2 = 0) : (printH l).1 = endH (l.flatMap linesH ++ [[]]) ∧ LinesOk (l.flatMap linesH ++ [[]]) := by
  obtain ⟨hr, h64, hl, hp⟩ := print_ok h
  have hne : ∀ x ∈ l.flatMap linesH, x ≠ [] := fun x hx => by
    obtain ⟨f, hf, hx⟩ := List.mem_flatMap.1 hx
    obtain ⟨y, ys, e, hy⟩ := lines_shape f
    rw [e] at hx
    rcases List.mem_cons.1 hx with rfl | hx
    · simp
    · obtain ⟨z, rfl⟩ := hy x hx
      simp
  refine ⟨by rw [hp, end_append]; rfl, by simp, fun x hx => ?_, fun x hx c hc => ?_, fun done x rest e => ?_⟩
  · rcases List.mem_append.1 hx with hx | hx
    · unfold longH at hl
      have := List.any_eq_false.1 hl x hx
      simp at this
      omega
    · rw [List.mem_singleton.1 hx]
      simp
  · rcases List.mem_append.1 hx with hx | hx
    · obtain ⟨f, hf, hx⟩ := List.mem_flatMap.1 hx
      exact linesH_clean (hr f hf) x hx c hc
    · rw [List.mem_singleton.1 hx] at hc
      cases hc
  · constructor
    · intro hx
      cases rest with
      | nil => rfl
      | cons y ys =>
        have h1 : x ∈ l.flatMap linesH := by
          have e2 := congrArg List.dropLast e
          rw [List.dropLast_concat, List.dropLast_append_of_ne_nil (by simp)] at e2
          rw [e2]
          simp
        exact absurd hx (hne x h1)
    · intro hx
      subst hx
      have := List.append_inj_right' e rfl
      exact (List.cons.inj this).1.symm
theorem line_split {T : ByteArray} {done rest : List TextH} {x : TextH} (h : T.data.toList = endH (done ++ x :: rest)) : T.data.toList = endH done ++ (x ++ 13 :: 10 :: endH rest) ∧ T.size = (endH done).length + (x.length + 2 + (endH rest).length) := by
  have e : T.data.toList = endH done ++ (x ++ 13 :: 10 :: endH rest) := by
    rw [h, end_append, end_cons]
    simp
  refine ⟨e, ?_⟩
  have : T.size = T.data.toList.length := rfl
  rw [this, e]
  simp
  omega
theorem at_list (T : ByteArray) (i : Nat) (h : i < T.size) (c : UInt8) (hc : T.data.toList[i]? = some c) : T[i] = c := by
  rw [Lib.data_getElem? T i h] at hc
  exact Option.some.inj hc
theorem line_byte {T : ByteArray} {done rest : List TextH} {x : TextH} (h : T.data.toList = endH (done ++ x :: rest)) (j : Nat) (hj : j < x.length) (hlt : (endH done).length + j < T.size) : T[(endH done).length + j] = x[j] := by
  refine at_list T _ hlt _ ?_
  rw [(line_split h).1, List.getElem?_append_right (by omega), Nat.add_sub_cancel_left, List.getElem?_append_left hj, List.getElem?_eq_getElem hj]
theorem line_13 {T : ByteArray} {done rest : List TextH} {x : TextH} (h : T.data.toList = endH (done ++ x :: rest)) (hlt : (endH done).length + x.length < T.size) : T[(endH done).length + x.length] = 13 := by
  refine at_list T _ hlt _ ?_
  rw [(line_split h).1, List.getElem?_append_right (by omega), Nat.add_sub_cancel_left, List.getElem?_append_right (by omega), Nat.sub_self]
  rfl
theorem line_10 {T : ByteArray} {done rest : List TextH} {x : TextH} (h : T.data.toList = endH (done ++ x :: rest)) (hlt : (endH done).length + x.length + 1 < T.size) : T[(endH done).length + x.length + 1] = 10 := by
  refine at_list T _ hlt _ ?_
  rw [(line_split h).1, List.getElem?_append_right (by omega), show (endH done).length + x.length + 1 - (endH done).length = x.length + 1 by omega, List.getElem?_append_right (by omega), show x.length + 1 - x.length = 1 by omega]
  rfl
theorem end_last : ∀ (done : List TextH), done ≠ [] → ∃ t, endH done = t ++ [10]
  | [], h => absurd rfl h
  | [x], _ => ⟨x ++ [13], by rw [end_cons]; simp [endH]⟩
  | x :: y :: d, _ => by
    obtain ⟨t, ht⟩ := end_last (y :: d) (by simp)
    exact ⟨x ++ [13, 10] ++ t, by rw [end_cons, ht]; simp⟩
theorem line_before {T : ByteArray} {done rest : List TextH} (h : T.data.toList = endH (done ++ rest)) (i : Nat) (hi : i + 1 = (endH done).length) (hlt : i < T.size) : T[i] = 10 := by
  have hd : done ≠ [] := fun e => by rw [e] at hi; simp [endH] at hi
  obtain ⟨t, ht⟩ := end_last done hd
  refine at_list T _ hlt _ ?_
  rw [ht] at hi
  have hi2 : i = t.length := by simp at hi; omega
  rw [h, end_append, ht, List.append_assoc, hi2, List.getElem?_append_right (Nat.le_refl _), Nat.sub_self]
  rfl
theorem line_cut {T : ByteArray} {done rest : List TextH} {x : TextH} (h : T.data.toList = endH (done ++ x :: rest)) : T.extract (endH done).length ((endH done).length + x.length) = textQ x := by
  rw [cut_text, (line_split h).1, List.drop_left, Nat.add_sub_cancel_left, List.take_left]
theorem bne_eqH {c : UInt8} {k : Nat} (hk : k < 256) (h : c ≠ UInt8.ofNat k) : ((c.toNat : Int) != (k : Int)) = true := by
  rw [bne_iff_ne]
  intro e
  apply h
  rw [← UInt8.toNat_inj, UInt8.toNat_ofNat_of_lt' (by show k < 256; exact hk)]
  omega

set_option maxRecDepth 100000 in
set_option maxHeartbeats 8000000 in
theorem hlines_walk (v : Value) (l : List FieldH) (m : Int) (w : World) (hat : FieldsAt w w.heap.size v l) (hsm : SmallF maxLen l) (hm : w.cell? ⟨0, 0, none⟩ = some (.int .i64 m)) :
    Calls Tryd.prog 5 #[v] w fun e w' => e = .returned (.bool true) ∧ Below w.heap.size w w' := by
  have haw := awake10_any m w hm
  have hfew : Hid (∀ W, Below w.heap.size w W → Calls Tryd.prog 10 #[v] W (FewPost l W)) := Lib.hid fun W hW => few10_any w.heap.size v l W (hat.below hW (Nat.le_refl _)) hW.size hsm
  have Hat := Lib.hid hat
  clear hsm hat
  go_enter Tryd.func5, Tryd.ntmps5
  go_wp2_with fail
  refine haw.mono ?_
  rintro e w1 ⟨rfl, hb1⟩
  clear haw
  go_wp2_with fail
  refine (hfew.out _ hb1).mono ?_
  rintro e w2 ⟨b, rfl, hfb, hw2⟩
  have hb2 := hb1.trans (hw2.mono hb1.size)
  clear hfew hw2 hb1
  cases b with
  | false =>
    go_wp2
    go_ret
    exact ⟨rfl, hb2⟩
  | true =>
    have hF : FewF l := hfb rfl
    obtain ⟨T, hT⟩ : ∃ T, textQ (printH l).1 = T := ⟨_, rfl⟩
    obtain ⟨E, hE⟩ : ∃ E, (printH l).2 = E := ⟨_, rfl⟩
    have hTs : T.size ≤ 48002 := by
      rw [← hT]
      have := print_size (l := l)
      have := hF.size
      show (printH l).1.length ≤ _
      omega
    have hpr : Calls Tryd.prog 11 #[v] w2 fun e w' => e = .returned (.tuple #[.string T, .int .i64 E]) ∧ Below w.heap.size w w' := by
      refine (hprint_any w.heap.size v l w2 (Hat.out.below hb2 (Nat.le_refl _)) hb2.size (fun f hf => by have := hF.small f hf; omega)).mono ?_
      rintro e w' ⟨rfl, hb⟩
      exact ⟨by rw [← hT, ← hE]; rfl, hb2.trans (hb.mono hb2.size)⟩
    have hok : Hid (E = 0 → ∃ L, T.data.toList = endH L ∧ LinesOk L) := Lib.hid fun h0 => by
      obtain ⟨h1, h2⟩ := header_lines (by rw [hE]; exact h0)
      exact ⟨_, by rw [← hT, ← h1]; rfl, h2⟩
    clear hT hE hF hfb Hat hb2
    go_wp2_with fail
    refine hpr.mono ?_
    rintro e w3 ⟨rfl, hb3⟩
    clear hpr
    by_cases hE : E = 0
    · subst hE
      obtain ⟨L, hTL, hL⟩ := hok.out (by first | rfl | trivial)
      have HTL := Lib.hid hTL
      have HL := Lib.hid hL
      clear hok hTL hL
      go_wp2
      go_loop [5, 6, 7] (fun fv iv _ => ∃ (done rest : List TextH) (i : Nat), fv = .int .i64 ((endH done).length : Nat) ∧ iv = .int .i64 i ∧ i ≤ T.size ∧ Hid (L = done ++ rest ∧ ((i + 1 = (endH done).length) ∨ ((endH done).length ≤ i ∧ i ≤ (endH done).length + (rest.headD []).length ∧ rest ≠ [])))) (fun _ iv _ => T.size - (intOf iv).toNat)
      case atStart =>
        exact ⟨[], L, 0, rfl, rfl, by omega, Lib.hid ⟨rfl, .inr ⟨Nat.le_refl _, by omega, HL.out.ne⟩⟩⟩
      case round =>
        obtain ⟨done, rest, i, rfl, rfl, hi, hst⟩ := hrel
        obtain ⟨hLd, hst⟩ := hst.out
        have hT : T.data.toList = endH (done ++ rest) := by rw [← hLd]; exact HTL.out
        have hsize : T.size = (endH done).length + (endH rest).length := by
          have : T.size = T.data.toList.length := rfl
          rw [this, hT, end_append, List.length_append]
        by_cases hlt : i + 1 < T.size
        · have hlt0 : i < T.size := by omega
          have hwr : IntKind.i64.wrap ((i : Int) + 1) = (i : Int) + 1 := by rw [IntWalk.i64_in _ (by omega)]
          by_cases h13 : T[i] = 13
          · have hB : (endH done).length ≤ i ∧ i ≤ (endH done).length + (rest.headD []).length ∧ rest ≠ [] := by
              rcases hst with h | h
              · have := line_before hT i h hlt0
                rw [h13] at this
                cases this
              · exact h
            obtain ⟨hB1, hB2, hB3⟩ := hB
            obtain ⟨x, rest', rfl⟩ : ∃ x r, rest = x :: r := by
              cases rest with
              | nil => exact absurd rfl hB3
              | cons x r => exact ⟨x, r, rfl⟩
            have hB2 : i ≤ (endH done).length + x.length := hB2
            obtain ⟨hsp, hsz⟩ := line_split hT
            have hix : i = (endH done).length + x.length := by
              rcases Nat.lt_or_ge i ((endH done).length + x.length) with h | h
              · obtain ⟨j, rfl⟩ : ∃ j, i = (endH done).length + j := ⟨i - (endH done).length, by omega⟩
                have hj : j < x.length := by omega
                have := line_byte hT j hj hlt0
                rw [h13] at this
                exact absurd this.symm (HL.out.clean x (by rw [hLd]; simp) _ (List.getElem_mem hj))
              · omega
            subst hix
            have h10 := line_10 hT hlt
            have hcut := line_cut hT
            have hx998 := HL.out.short x (by rw [hLd]; simp)
            have hlast := HL.out.last done x rest' hLd
            have hnext : Hid (L = (done ++ [x]) ++ rest' ∧ (((endH done).length + x.length + 1 + 1 = (endH (done ++ [x])).length) ∨ ((endH (done ++ [x])).length ≤ (endH done).length + x.length + 1 ∧ (endH done).length + x.length + 1 ≤ (endH (done ++ [x])).length + (rest'.headD []).length ∧ rest' ≠ []))) := Lib.hid ⟨by rw [hLd]; simp, .inl (by rw [end_append, end_cons]; simp [endH]; omega)⟩
            have hlen2 : (endH (done ++ [x])).length = (endH done).length + x.length + 2 := by rw [end_append, end_cons]; simp [endH]; omega
            obtain ⟨F, hF⟩ : ∃ F, (endH done).length = F := ⟨_, rfl⟩
            obtain ⟨X, hX⟩ : ∃ X, textQ x = X := ⟨_, rfl⟩
            have hXs : X.size = x.length := by rw [← hX]; rfl
            have hXe : X.toList.isEmpty = decide (x = []) := by
              rw [← hX, Lib.toList_data]
              show x.isEmpty = _
              cases x <;> rfl
            obtain ⟨K, hK⟩ : ∃ K, x.length = K := ⟨_, rfl⟩
            simp only [hF, hK] at hcut hnext hlen2 hsz hlt hlt0 hwr h13 h10 hi ⊢
            rw [hX] at hcut
            rw [hK] at hXs hx998
            have q13 : ((T[F + K].toNat : Int) != 13) = false := by rw [h13]; rfl
            have q10 : ((T[F + K + 1].toNat : Int) != 10) = false := by rw [h10]; rfl
            have w2 : IntKind.i64.wrap (((F + K : Nat) : Int) + 2) = ((F + K : Nat) : Int) + 2 := by rw [IntWalk.i64_in _ (by omega)]
            have hR : (rest' = [] ∧ X.toList.isEmpty = true ∧ F + K + 2 = T.size) ∨ (rest' ≠ [] ∧ X.toList.isEmpty = false ∧ F + K + 2 < T.size) := by
              by_cases hre : rest' = []
              · refine .inl ⟨hre, by rw [hXe, decide_eq_true (hlast.2 hre)], ?_⟩
                rw [hre] at hsz
                have e0 : (endH ([] : List TextH)).length = 0 := rfl
                omega
              · refine .inr ⟨hre, by rw [hXe, decide_eq_false (fun h => hre (hlast.1 h))], ?_⟩
                obtain ⟨y, ys, rfl⟩ : ∃ y ys, rest' = y :: ys := by
                  cases rest' with
                  | nil => exact absurd rfl hre
                  | cons y ys => exact ⟨y, ys, rfl⟩
                rw [end_cons] at hsz
                simp at hsz
                omega
            have hc1 : (F : Int) ≤ ((F + K : Nat) : Int) := by omega
            have hc2 : ((F + K : Nat) : Int) ≤ (T.size : Int) := by omega
            have hk998 : decide ((998 : Int) < (K : Int)) = false := decide_eq_false (by omega)
            have Hlen2 := Lib.hid hlen2
            have Hcut := Lib.hid hcut
            have hFK : F ≤ F + K := by omega
            clear hst hsize hT hLd h13 h10 hsp hB1 hB2 hB3 hF hX hK hXe hlast hsz hlen2
            rcases hR with ⟨_, hem, hend⟩ | ⟨_, hem, hend⟩
            · have hq : ((F : Int) + (K : Int) + 2 == (T.size : Int)) = true := by rw [beq_iff_eq]; omega
              go_wp2
              exact ⟨⟨done ++ [x], rest', F + K + 1, by rw [Hlen2.out]; go_num, by go_num, by omega, hnext⟩, by simp [intOf]; omega⟩
            · have hq : ((F : Int) + (K : Int) + 2 == (T.size : Int)) = false := by rw [beq_eq_false_iff_ne]; omega
              go_wp2
              exact ⟨⟨done ++ [x], rest', F + K + 1, by rw [Hlen2.out]; go_num, by go_num, by omega, hnext⟩, by simp [intOf]; omega⟩
          · have q13 := bne_eqH (k := 13) (by decide) h13
            have hnext : Hid (L = done ++ rest ∧ ((i + 1 + 1 = (endH done).length) ∨ ((endH done).length ≤ i + 1 ∧ i + 1 ≤ (endH done).length + (rest.headD []).length ∧ rest ≠ []))) := Lib.hid ⟨hLd, .inr (by
              have hrne : rest ≠ [] := fun e => by
                rw [e] at hsize hst
                rcases hst with h | h
                · have e0 : (endH ([] : List TextH)).length = 0 := rfl
                  omega
                · exact h.2.2 rfl
              rcases hst with h | ⟨h1, h2, h3⟩
              · exact ⟨by omega, by omega, hrne⟩
              · obtain ⟨x, rest', rfl⟩ : ∃ x r, rest = x :: r := by
                  cases rest with
                  | nil => exact absurd rfl h3
                  | cons x r => exact ⟨x, r, rfl⟩
                have h2 : i ≤ (endH done).length + x.length := h2
                refine ⟨by omega, ?_, h3⟩
                show i + 1 ≤ (endH done).length + x.length
                rcases Nat.lt_or_ge i ((endH done).length + x.length) with h | h
                · omega
                · obtain rfl : i = (endH done).length + x.length := by omega
                  exact absurd (line_13 hT hlt0) h13)⟩
            obtain ⟨F, hF⟩ : ∃ F, (endH done).length = F := ⟨_, rfl⟩
            have HF := Lib.hid hF
            clear hst hsize hT hLd h13
            rw [hF]
            clear hF
            go_wp2
            exact ⟨⟨done, rest, i + 1, by rw [HF.out], by go_num, by omega, hnext⟩, by simp [intOf]; omega⟩
        · have hfin : (endH done).length = T.size := by
            rcases hst with h | ⟨h1, h2, h3⟩
            · omega
            · obtain ⟨x, rest', rfl⟩ : ∃ x r, rest = x :: r := by
                cases rest with
                | nil => exact absurd rfl h3
                | cons x r => exact ⟨x, r, rfl⟩
              have h2 : i ≤ (endH done).length + x.length := h2
              have := (line_split hT).2
              omega
          have hwr : IntKind.i64.wrap ((i : Int) + 1) = (i : Int) + 1 := by rw [IntWalk.i64_in _ (by omega)]
          clear hst hsize hT hLd
          rw [hfin]
          clear hfin
          go_wp2
          go_ret
          exact ⟨rfl, hb3⟩
    · have hq : (E != 0) = true := bne_iff_ne.2 hE
      go_wp2
      go_ret
      exact ⟨rfl, hb3⟩
end Go.Proofs.YtneihcdeflfahaaDoor
