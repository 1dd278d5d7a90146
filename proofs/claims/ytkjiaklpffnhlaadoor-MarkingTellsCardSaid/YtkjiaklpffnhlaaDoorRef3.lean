/-
  The document's answer of layer 1, written in Go: is a lattice right? Told by the plain function that tells the program.
-/
import Derived.Test.YtkjiaklpffnhlaaDoorRef1
import Derived.Test.YtkjiaklpffnhlaaDoorRight
import Derived.Deep.AppendLies
import Derived.Deep.Cut
import Derived.Deep.QuietTactic
import Derived.BigQuiet
import Derived.Deep.RegionHeld3
namespace Go.Proofs.YtkjiaklpffnhlaaDoor
open Go.RowKit

theorem bytes_ne' {a b : ByteArray} (h : a ≠ b) : (a.toList == b.toList) = false := by
  have e : ∀ t : ByteArray, t.toList = t.data.toList := fun t => by
    cases t with
    | mk d => cases d with
      | mk l => simp
  simp only [e, beq_eq_false_iff_ne, ne_eq]
  exact fun e => h (ByteArray.ext (Array.ext' e))

/-- An append of a slice of strings onto a row of the call's own, at a step of a region that draws. -/
theorem step_append_strs {w : World} {ops : Array Oper} {o : Oper} {a : Act} {K : Act → World → Prop} {Q : Exit → Act → World → Prop} {E : Prop} (hgd : o.guard = none) (s x : Operand)
    (ho : o.op = .call { callee := .builtin .append, args := #[s, x], argTypes := #[22, 22] })
    (base B : Nat) (v : Value) (n : Nat) (xs : List Value) (hs : a.eval s = v) (hown : w.ownsRow base 9 1 v n xs) (A : Option Addr) (m c : Nat) (ss : List ByteArray) (hx : a.eval x = .slice A m c) (hr : Strs w B A m c ss)
    (h63 : n + m ≤ maxLen) (hbytes : (n + m) * 16 ≤ 140737488355328) (hbase : base ≤ w.heap.size)
    (h : ∀ v' w', w'.ownsRow base 9 1 v' (n + m) (xs ++ ss.map .string) → w.grownBy w' v.ownBlock → K (a.put o.dst v') w') :
    if Region.wanted o (yielded ops a.tmps) = true then Oper.wp Tryd.prog o a w K Q else E := by
  obtain ⟨i0, hi, hz0, hz1, hz2⟩ := info_parts infoStr
  have hw : Region.wanted o (yielded ops a.tmps) = true := by simp [Region.wanted, hgd]
  rw [if_pos hw]
  rcases hr.2 with ⟨rfl, rfl, rfl⟩ | ⟨ad, rfl, h0⟩
  · have hn : ss = [] := List.eq_nil_of_length_eq_zero hr.1
    subst hn
    have hrun := run_append_owned_none (P := Tryd.prog) (w := w) base 22 o.type 9 i0 1 Tryd.underlying22 hi v n xs hown
    unfold Oper.wp
    simp only [execOp, ho, resolve, invoke, builtin, Sem.run_bind, Sem.run_pure, Result.andThen_ok, List.map_toArray, List.map_cons, List.map_nil, hs, hx, hrun]
    exact h v w (by simpa using hown) (World.grownBy.refl w _)
  · obtain ⟨v', w', hrun, h2, h3, _, _⟩ := run_append_own_at (P := Tryd.prog) w base 22 o.type 9 i0 (.string ⟨#[]⟩) 1 16 Tryd.underlying22 hi hz0 hz1 hz2 rfl (by decide) v n xs hown ad m c (ss.map .string) (by simp [hr.1])
      (by
        rcases h0 with rfl | ⟨b, off, rfl, _, hc⟩
        · have hn : ss = [] := List.eq_nil_of_length_eq_zero hr.1
          subst hn
          intro j u hj
          simp at hj
        · exact strs_cells hr.1 hc) (strs_oneCell ss) h63 hbytes hbase
    unfold Oper.wp
    simp only [execOp, ho, resolve, invoke, builtin, Sem.run_bind, Sem.run_pure, Result.andThen_ok, List.map_toArray, List.map_cons, List.map_nil, hs, hx, hrun]
    exact h v' w' h2 h3

/-- The k-th is unlike the first j. -/
def Unlike (L : List ByteArray) (k j : Nat) : Prop := ∀ t, t < j → L.getD t ByteArray.empty ≠ L.getD k ByteArray.empty
theorem unlike_in {L : List ByteArray} {k : Nat} (hk : k < L.length) (h : Unlike L k k) : inB (L.take k) (L.getD k ByteArray.empty) = false := by
  rw [← Bool.not_eq_true, inB_iff]
  intro hm
  obtain ⟨t, ht, e⟩ := List.getElem_of_mem hm
  simp only [List.length_take] at ht
  refine h t (by omega) ?_
  rw [List.getElem_take] at e
  rw [← e]
  simp [List.getD, List.getElem?_eq_getElem (show t < L.length by omega)]
theorem like_in {L : List ByteArray} {k j : Nat} (hk : k < L.length) (hj : j < k) (h : L.getD j ByteArray.empty = L.getD k ByteArray.empty) : goodB L = false := by
  refine goodB_take L (k + 1) ?_
  rw [take_snoc' L k hk, goodB_snoc]
  have : inB (L.take k) (L.getD k ByteArray.empty) = true := by
    rw [inB_iff, ← h, List.getD, List.getElem?_eq_getElem (show j < L.length by omega)]
    simp only [Option.getD_some]
    exact List.mem_take_iff_getElem.2 ⟨j, by omega, rfl⟩
  rw [this]
  simp

set_option maxHeartbeats 4000000 in
set_option maxRecDepth 100000 in
theorem rright_any (B n c n' c' : Nat) (A A' : Option Addr) (ss ss' : List ByteArray) (w : World) (hB : B ≤ w.heap.size) (h1 : Strs w B A n c ss) (h2 : Strs w B A' n' c' ss') (hsz : ∀ s ∈ ss ++ ss', s.size ≤ maxLen) :
    Calls Tryd.prog 17 #[.agg #[.slice A n c, .slice A' n' c']] w fun e w' => e = .returned (.bool (rightB ss ss')) ∧ Below w.heap.size w w' := by
  have hl1 := h1.len
  have hl2 := h2.len
  by_cases b1 : n < 1
  · have hr : rightB ss ss' = false := by unfold rightB; simp [show ¬ 1 ≤ ss.length by omega]
    rw [hr]
    clear hr hl1 hl2
    go_enter Tryd.func17, Tryd.ntmps17
    go_wp2
    go_ret
    exact ⟨rfl, (Below.refl _ _).alloc (Nat.le_refl _) _⟩
  by_cases b2 : 16 < n
  · have hr : rightB ss ss' = false := by unfold rightB; simp [show ¬ ss.length ≤ 16 by omega]
    rw [hr]
    clear hr hl1 hl2
    go_enter Tryd.func17, Tryd.ntmps17
    go_wp2
    go_ret
    exact ⟨rfl, (Below.refl _ _).alloc (Nat.le_refl _) _⟩
  by_cases b3 : 64 < n'
  · have hr : rightB ss ss' = false := by unfold rightB; simp [show ¬ ss'.length ≤ 64 by omega]
    rw [hr]
    clear hr hl1 hl2
    go_enter Tryd.func17, Tryd.ntmps17
    go_wp2
    go_ret
    exact ⟨rfl, (Below.refl _ _).alloc (Nat.le_refl _) _⟩
  have hr : rightB ss ss' = goodB (ss ++ ss') := by unfold rightB; simp [show 1 ≤ ss.length by omega, show ss.length ≤ 16 by omega, show ss'.length ≤ 64 by omega]
  rw [hr]
  have Hl : Hid ((ss ++ ss').length = n + n') := Lib.hid (by simp [hl1, hl2])
  have Hsz := Lib.hid hsz
  clear hr hl1 hl2 hsz
  have hbw : Below w.heap.size w (w.alloc (.cells #[.slice A n c, .slice A' n' c'] 24)) := (Below.refl _ _).alloc (Nat.le_refl _) _
  go_enter Tryd.func17, Tryd.ntmps17
  go_wp2_with fail
  have d0 : (w.alloc (.cells #[.slice A n c, .slice A' n' c'] 24)).cell? ⟨w.heap.size, 0, none⟩ = some (.slice A n c) := by go_simp
  have d1 : (w.alloc (.cells #[.slice A n c, .slice A' n' c'] 24)).cell? ⟨w.heap.size, 1, none⟩ = some (.slice A' n' c') := by go_simp
  have s1 := h1.alloc hB (.cells #[.slice A n c, .slice A' n' c'] 24)
  have s2 := h2.alloc hB (.cells #[.slice A n c, .slice A' n' c'] 24)
  have hz1 : (w.alloc (.cells #[.slice A n c, .slice A' n' c'] 24)).heap.size = w.heap.size + 1 := by simp
  clear h1 h2
  revert hbw d0 d1 s1 s2 hz1
  generalize (w.alloc (.cells #[.slice A n c, .slice A' n' c'] 24)) = w1
  intro hbw d0 d1 s1 s2 hz1
  have hK : Hid (∀ W, Below w1.heap.size w1 W → (fun W => W.cell? ⟨w.heap.size, 0, none⟩ = some (.slice A n c) ∧ W.cell? ⟨w.heap.size, 1, none⟩ = some (.slice A' n' c') ∧ Strs W B A n c ss ∧ Strs W B A' n' c' ss' ∧ Below w1.heap.size w1 W) W) := Lib.hid fun W hb =>
    ⟨(hb.cell (p := ⟨w.heap.size, 0, none⟩) (by simp; omega)).trans d0, (hb.cell (p := ⟨w.heap.size, 1, none⟩) (by simp; omega)).trans d1, s1.below (hb.mono (by omega)), s2.below (hb.mono (by omega)), hb⟩
  go_cut [3] from 4 (fun s3 wc => ∃ v, s3 = v ∧ wc.ownsRow w1.heap.size 9 1 v (n + n') ((ss ++ ss').map .string) ∧ Below w1.heap.size w1 wc)
  case first =>
    clear d0 d1 s1 s2
    refine wp_region_held_drew (S := (fun W => W.cell? ⟨w.heap.size, 0, none⟩ = some (.slice A n c) ∧ W.cell? ⟨w.heap.size, 1, none⟩ = some (.slice A' n' c') ∧ Strs W B A n c ss ∧ Strs W B A' n' c' ss' ∧ Below w1.heap.size w1 W)) (by kernel_rfl) (hK.out _ (Below.refl _ _).drew) (fun hHeld => ?_)
    refine' wpAnyH_take (i := 1) (v := (.pointer (some ⟨w.heap.size, 0, none⟩))) ?hi1 (by kernel_rfl) (by kernel_rfl) (by kernel_rfl) ?hq1 (Or.inl ⟨?hw1, ?hy1⟩) (by assumption) ?hr1
    case hi1 => (simp only [List.getElem?_toArray, List.getElem?_cons_zero, List.getElem?_cons_succ]; exact rfl)
    case hq1 => exact fun _ _ _ h => h
    case hw1 => rfl
    case hy1 => (intro wz hz; (try dsimp only at hz); go_simp)
    try simp only [Act.put, List.setIfInBounds_toArray, List.set_cons_zero, List.set_cons_succ]
    refine' wpAnyH_take (i := 2) (v := (.slice A n c)) ?hi2 (by kernel_rfl) (by kernel_rfl) (by kernel_rfl) ?hq2 (Or.inl ⟨?hw2, ?hy2⟩) (by assumption) ?hr2
    case hi2 => (simp only [List.getElem?_toArray, List.getElem?_cons_zero, List.getElem?_cons_succ]; exact rfl)
    case hq2 => exact fun _ _ _ h => h
    case hw2 => rfl
    case hy2 => (intro wz hz; (try dsimp only at hz); go_simp)
    try simp only [Act.put, List.setIfInBounds_toArray, List.set_cons_zero, List.set_cons_succ]
    refine' wpAnyH_take (i := 4) (v := (.pointer (some ⟨w.heap.size, 1, none⟩))) ?hi4 (by kernel_rfl) (by kernel_rfl) (by kernel_rfl) ?hq4 (Or.inl ⟨?hw4, ?hy4⟩) (by assumption) ?hr4
    case hi4 => (simp only [List.getElem?_toArray, List.getElem?_cons_zero, List.getElem?_cons_succ]; exact rfl)
    case hq4 => exact fun _ _ _ h => h
    case hw4 => rfl
    case hy4 => (intro wz hz; (try dsimp only at hz); go_simp)
    try simp only [Act.put, List.setIfInBounds_toArray, List.set_cons_zero, List.set_cons_succ]
    refine' wpAnyH_take (i := 5) (v := (.slice A' n' c')) ?hi5 (by kernel_rfl) (by kernel_rfl) (by kernel_rfl) ?hq5 (Or.inl ⟨?hw5, ?hy5⟩) (by assumption) ?hr5
    case hi5 => (simp only [List.getElem?_toArray, List.getElem?_cons_zero, List.getElem?_cons_succ]; exact rfl)
    case hq5 => exact fun _ _ _ h => h
    case hw5 => rfl
    case hy5 => (intro wz hz; (try dsimp only at hz); go_simp)
    try simp only [Act.put, List.setIfInBounds_toArray, List.set_cons_zero, List.set_cons_succ]
    refine wpAnyH_ready (rs := [0]) (by kernel_rfl) (by simp) ?_
    refine AllReadyH.cons (o := ?hoa) ?hioa (fun K hKK => ?_) AllReadyH.nil
    case hioa => (simp only [List.getElem?_toArray, List.getElem?_cons_zero]; exact rfl)
    go_simp
    have hb2 : Below w1.heap.size w1 (w1.drew.alloc (.cells #[] 9)) := (Below.refl w1.heap.size w1).drew.alloc (by simp) _
    have hown0 : (w1.drew.alloc (.cells #[] 9)).ownsRow w1.heap.size 9 1 (.slice (some ⟨w.heap.size + 1, 0, none⟩) 0 0) 0 [] := by
      rw [← hz1]
      exact World.ownsRow_made (e := 9) (base := w1.heap.size) (size := 1) w1.drew #[] 0 (by simp) (by simp) (by simp)
    refine hKK.out _ _ (hK.out _ hb2) (fun hHeld2 => ?_)
    clear hHeld hKK
    try simp only [Act.put, List.setIfInBounds_toArray, List.set_cons_zero, List.set_cons_succ]
    refine wpAnyH_ready (rs := [3]) (by kernel_rfl) (by simp) ?_
    refine AllReadyH.cons (o := ?hob) ?hiob (fun K hKK => ?_) AllReadyH.nil
    case hiob => (simp only [List.getElem?_toArray, List.getElem?_cons_zero, List.getElem?_cons_succ]; exact rfl)
    refine step_append_strs rfl (.tmp 22) (.tmp 24) rfl w1.heap.size B _ 0 [] rfl hown0 A n c ss rfl hHeld2.2.2.1 (by unfold maxLen; omega) (by omega) hb2.size (fun v3 w3 hown3 hgrow3 => ?_)
    rw [Nat.zero_add, List.nil_append] at hown3
    have hb3 : Below w1.heap.size w1 w3 := hb2.grown hgrow3 hb2.size fun k hk => (hown0.lt k hk).1
    refine hKK.out _ _ (hK.out _ hb3) (fun hHeld3 => ?_)
    clear hHeld2 hKK hown0 hgrow3 hb2
    try simp only [Act.put, List.setIfInBounds_toArray, List.set_cons_zero, List.set_cons_succ]
    refine wpAnyH_ready (rs := [6]) (by kernel_rfl) (by simp) ?_
    refine AllReadyH.cons (o := ?hoc) ?hioc (fun K hKK => ?_) AllReadyH.nil
    case hioc => (simp only [List.getElem?_toArray, List.getElem?_cons_zero, List.getElem?_cons_succ]; exact rfl)
    refine step_append_strs rfl (.tmp 25) (.tmp 27) rfl w1.heap.size B _ n _ rfl hown3 A' n' c' ss' rfl hHeld3.2.2.2.1 (by unfold maxLen; omega) (by omega) hb3.size (fun v4 w4 hown4 hgrow4 => ?_)
    have hb4 : Below w1.heap.size w1 w4 := hb3.grown hgrow4 hb3.size fun k hk => (hown3.lt k hk).1
    refine hKK.out _ _ (hK.out _ hb4) (fun hHeld4 => ?_)
    clear hHeld3 hKK hown3 hgrow4 hb3
    try simp only [Act.put, List.setIfInBounds_toArray, List.set_cons_zero, List.set_cons_succ]
    refine' wpAnyH_take (i := 7) (v := v4) ?hi7 (by kernel_rfl) (by kernel_rfl) (by kernel_rfl) ?hq7 (Or.inl ⟨?hw7, ?hy7⟩) (by assumption) ?hr7
    case hi7 => (simp only [List.getElem?_toArray, List.getElem?_cons_zero, List.getElem?_cons_succ]; exact rfl)
    case hq7 => exact fun _ _ _ h => h
    case hw7 => rfl
    case hy7 => (intro wz hz; (try dsimp only at hz); go_simp)
    try simp only [Act.put, List.setIfInBounds_toArray, List.set_cons_zero, List.set_cons_succ]
    refine wpAnyH_done (by kernel_rfl) ?_ _
    go_wp2_with fail
    go_meet
    exact ⟨_, rfl, by rw [List.map_append]; exact hown4, hb4⟩
  case rest =>
    obtain ⟨v, rfl, hown, hbc⟩ := hcut
    generalize hL : ss ++ ss' = L at hown Hl Hsz ⊢
    have HL := Lib.hid hL
    clear hL
    obtain ⟨A3, c3, rfl, hs3⟩ := Strs.of_own hown
    have hbwc := hbw.trans (hbc.mono (by omega))
    clear hown hbc hK d0 d1 s1 s2 hbw
    go_wp2
    go_loopw [4, 5] (fun i _ wr => ∃ k : Nat, k ≤ n + n' ∧ i = .int .i64 k ∧ goodB (L.take k) = true ∧ Strs wr wr.heap.size A3 (n + n') c3 L ∧ Below w.heap.size w wr) (fun i _ _ => n + n' - (intOf i).toNat)
    case atStart => exact ⟨0, Nat.zero_le _, rfl, rfl, hs3, hbwc⟩
    case round =>
      obtain ⟨k, hk, rfl, hgd, hst, hbr⟩ := hrel
      clear hs3 hbwc
      by_cases hlt : k < n + n'
      · have hkl : k < L.length := by rw [Hl.out]; exact hlt
        have Hst := Lib.hid hst
        obtain ⟨b, off, rfl, hb, hc⟩ := hst.at_ hlt
        have hcx := hc k hlt
        have hxs : (L.getD k ByteArray.empty).size ≤ maxLen := by
          rw [List.getD, List.getElem?_eq_getElem hkl]
          exact Hsz.out _ (List.getElem_mem hkl)
        have htk : goodB (L.take (k + 1)) = (!inB (L.take k) (L.getD k ByteArray.empty) && nameB (L.getD k ByteArray.empty).data.toList) := by rw [take_snoc' L k hkl, goodB_snoc, hgd, Bool.true_and]
        have hun : Unlike L k k → inB (L.take k) (L.getD k ByteArray.empty) = false := unlike_in hkl
        have hli : ∀ j, j < k → L.getD j ByteArray.empty = L.getD k ByteArray.empty → goodB L = false := fun j hj => like_in hkl hj
        have htake : goodB (L.take (k + 1)) = false → goodB L = false := goodB_take L (k + 1)
        obtain ⟨x, hx⟩ : ∃ x, L.getD k ByteArray.empty = x := ⟨_, rfl⟩
        rw [hx] at hcx hxs htk hun
        obtain ⟨y, hy⟩ : ∃ y, nameB x.data.toList = y := ⟨_, rfl⟩
        rw [hy] at htk
        have Hx := Lib.hid hx
        have Hc := Lib.hid hc
        have Htk := Lib.hid htk
        have Hun := Lib.hid hun
        have Hli := Lib.hid hli
        have Htake := Lib.hid htake
        have Hgd := Lib.hid hgd
        have Hy := Lib.hid hy
        clear hc htk hun hli htake hgd hy hkl hx hst
        go_wp2_with fail
        refine (rname_any _ _ hxs).mono ?_
        rintro e w' ⟨rfl, hw'⟩
        rw [hw']
        clear hw'
        rw [Hy.out]
        cases y
        · have Hf := Lib.hid (Htake.out (by rw [Htk.out, Bool.and_false]))
          go_wp2
          go_ret
          exact ⟨by rw [HL.out, Hf.out]; rfl, hbr⟩
        · go_wp2
          go_loopw [5] (fun j wi => ∃ t : Nat, t ≤ k ∧ j = .int .i64 t ∧ Unlike L k t ∧ Below wr.heap.size wr wi) (fun j _ => k - (intOf j).toNat)
          case atStart => exact ⟨0, Nat.zero_le _, rfl, fun t ht => by omega, Below.refl _ _⟩
          case round =>
            obtain ⟨t, ht, rfl, hut, hbi⟩ := hrel
            have Hut := Lib.hid hut
            clear hut
            have hbwi := hbr.trans (hbi.mono hbr.size)
            by_cases hlt2 : t < k
            · have hct := (hbi.cell (p := ⟨b, off + t, none⟩) hb).trans (Hc.out t (by omega))
              have hck := (hbi.cell (p := ⟨b, off + k, none⟩) hb).trans hcx
              clear hcx
              obtain ⟨xt, hxt⟩ : ∃ x, L.getD t ByteArray.empty = x := ⟨_, rfl⟩
              rw [hxt] at hct
              have Hxt := Lib.hid hxt
              clear hxt
              obtain ⟨z, hz⟩ : ∃ z, (xt.toList == x.toList) = z := ⟨_, rfl⟩
              have Hz : Hid (z = true → xt = x) := Lib.hid fun h => by
                rw [h] at hz
                cases Classical.em (xt = x) with
                | inl e => exact e
                | inr e => rw [bytes_ne' e] at hz; cases hz
              have Hz2 : Hid (z = false → xt ≠ x) := Lib.hid fun h e => by
                rw [h, e] at hz
                simp at hz
              go_wp2_with fail
              go_quiet (fail)
              have hbi2 := below_drewN hbi nq
              have hbwi2 := below_drewN hbwi nq
              cases z
              · go_wp2
                go_roundw
                case rel =>
                  refine ⟨t + 1, by omega, by go_num, ?_, hbi2⟩
                  intro u hu
                  rcases Nat.lt_or_ge u t with h | h
                  · exact Hut.out u h
                  · have : u = t := by omega
                    rw [this, Hxt.out, Hx.out]
                    exact Hz2.out rfl
                case measure => simp [intOf]; omega
              · have Hf := Lib.hid (Hli.out t hlt2 (by rw [Hxt.out, Hx.out]; exact Hz.out rfl))
                go_wp2
                go_ret
                exact ⟨by rw [HL.out, Hf.out]; rfl, hbwi2⟩
            · obtain rfl : t = k := by omega
              have Hs := Lib.hid (Htk.out.trans (by rw [Hun.out Hut.out]))
              have hsi := Hst.out.below hbi
              have hsz := hbi.size
              go_wp2
              go_roundw
              case rel => exact ⟨t + 1, by omega, by go_num, Hs.out, hsi.more hsz, hbwi⟩
              case measure => simp [intOf]; omega
      · have hfin : goodB L = true := by rwa [List.take_of_length_le (by rw [Hl.out]; omega)] at hgd
        have Hfin := Lib.hid hfin
        clear hfin hgd hst
        go_wp2
        go_ret
        exact ⟨by rw [HL.out, Hfin.out]; rfl, hbr⟩
end Go.Proofs.YtkjiaklpffnhlaaDoor
