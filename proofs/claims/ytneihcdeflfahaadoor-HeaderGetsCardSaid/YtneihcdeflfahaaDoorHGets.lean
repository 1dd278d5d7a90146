/-
  HeaderGets: the walk.
-/
import Derived.Test.YtneihcdeflfahaaDoorH10D
import Derived.Test.YtneihcdeflfahaaDoorAwake10
import Derived.Test.YtneihcdeflfahaaDoorHAppF
import Derived.Test.YtneihcdeflfahaaDoorByteR
import Derived.Deep.RegionHeldLaw
namespace Go.Proofs.YtneihcdeflfahaaDoor
open Go.RowKit

theorem step_append_fields {w : World} {ops : Array Oper} {o : Oper} {a : Act} {K : Act → World → Prop} {Q : Exit → Act → World → Prop} {E : Prop} (hgd : o.guard = none) (s x : Operand)
    (ho : o.op = .call { callee := .builtin .append, args := #[s, x], argTypes := #[22, 22] }) (B : Nat) (v : Value) (l : List FieldH) (hs : a.eval s = v) (hown : FieldsOwn w B v l) (hB : B ≤ w.heap.size)
    (vx : Value) (k : List FieldH) (Bx : Nat) (hx : a.eval x = vx) (hat : FieldsAt w Bx vx k) (hnil : NilF vx) (hl : l.length + k.length ≤ 1000000)
    (h : ∀ v' w', FieldsOwn w' B v' (l ++ k) → w.grownBy w' v.ownBlock → K (a.put o.dst v') w') : if Region.wanted o (yielded ops a.tmps) = true then Oper.wp Tryd.prog o a w K Q else E := by
  have hw : Region.wanted o (yielded ops a.tmps) = true := by simp [Region.wanted, hgd]
  rw [if_pos hw]
  obtain ⟨i0, hi, hz0, hz1, hz2⟩ := info_parts infoField
  obtain ⟨ao, cap, rfl, hc1, hc2, hcl⟩ := hat
  obtain ⟨ao', n', c', e, hn⟩ := hnil
  cases e
  cases ao with
  | none =>
    obtain ⟨h0, rfl⟩ := hn rfl
    have hk : k = [] := List.eq_nil_of_length_eq_zero h0
    subst hk
    have hrun := run_append_owned_none (P := Tryd.prog) (w := w) B 22 o.type 38 i0 2 Tryd.underlying22 hi v l.length (fieldsCells l) hown
    unfold Oper.wp
    simp [execOp, ho, resolve, invoke, builtin, hs, hx, hrun, Result.andThen]
    exact h v w (by rw [List.append_nil]; exact hown) ⟨rfl, rfl, rfl, Nat.le_refl _, fun _ _ _ => rfl⟩
  | some ad =>
    refine wp_append_own w s x 22 ho B 38 i0 (.agg #[.string ⟨#[]⟩, .string ⟨#[]⟩]) 2 32 Tryd.underlying22 hi hz0 hz1 hz2 rfl (by decide) v l.length (fieldsCells l) hs hown ad k.length cap (fieldsCells k) hx (fields_len k) (fun j u hj => ?_) (fields_one k) (by unfold maxLen; omega) (by omega) hB (fun v' w' q1 q2 _ => ?_)
    · obtain ⟨hd, hv⟩ := fields_get k j u hj
      obtain ⟨g, off, e, hg, q0, q1⟩ := hcl (j / 2) hd
      cases e
      rw [Addr.add_lit]
      rcases hv with ⟨h2, hv⟩ | ⟨h2, hv⟩
      · have e2 : off + j / 2 * 2 = off + j := by omega
        rw [e2] at q0
        rw [hv hd]
        exact q0
      · have e2 : off + j / 2 * 2 + 1 = off + j := by omega
        rw [e2] at q1
        rw [hv hd]
        exact q1
    · refine h v' w' ?_ q2
      unfold FieldsOwn
      rw [fields_append, List.length_append]
      exact q1
theorem own_empty_ge (w : World) (B : Nat) (hB : B ≤ w.heap.size) : FieldsOwn (w.alloc (.cells #[] 38)) B (.slice (some ⟨w.heap.size, 0, none⟩) 0 0) [] :=
  ⟨rfl, .inr ⟨w.heap.size, 0, #[], rfl, hB, heap_alloc_new w _, Nat.le_refl _, by decide, rfl, rfl⟩⟩
theorem single_at {w : World} {g : Nat} {f : FieldH} (h : w.heap[g]? = some (.cells #[.string (textQ f.1), .string (textQ f.2)] 38 (0, 0))) : FieldsAt w w.heap.size (.slice (some ⟨g, 0, none⟩) 1 1) [f] := by
  refine ⟨_, 1, rfl, Nat.le_refl _, by decide, fun i hi => ⟨g, 0, rfl, (Array.getElem?_eq_some_iff.1 h).1, ?_⟩⟩
  obtain rfl : i = 0 := by simp at hi; omega
  exact ⟨Lib.cell_of_heap h 0, Lib.cell_of_heap h 1⟩
theorem gets_facts (l : List FieldH) (f : FieldH) (n : TextH) {V U X MB : ByteArray} {ok uo xo S : Bool}
    (hV : textQ ((getH l n).getD []) = V) (hok : (getH l n).isSome = ok) (hU : textQ ((getH (l ++ [f]) n).getD []) = U) (huo : (getH (l ++ [f]) n).isSome = uo)
    (hX : textQ ((getH ([f] ++ l) n).getD []) = X) (hxo : (getH ([f] ++ l) n).isSome = xo) (hS : sameH f.1 n = S) (hMB : textQ f.2 = MB) :
    (S = true → X = MB ∧ xo = true ∧ (ok = true → U = V ∧ uo = true) ∧ (ok = false → U = MB ∧ uo = true)) ∧ (S = false → X = V ∧ xo = ok ∧ U = V ∧ uo = ok) := by
  rw [get_snoc] at hU huo
  rw [show [f] ++ l = f :: l from rfl, get_cons] at hX hxo
  subst hV hok hU huo hX hxo hMB
  cases hg : getH l n with
  | none =>
    constructor
    · intro h
      rw [h] at hS
      simp [hS]
    · intro h
      rw [h] at hS
      simp [hS]
  | some b =>
    constructor
    · intro h
      rw [h] at hS
      simp [hS]
    · intro h
      rw [h] at hS
      simp [hS]

set_option maxRecDepth 100000 in
set_option maxHeartbeats 8000000 in
theorem hgets_walk (v : Value) (l : List FieldH) (name : ByteArray) (f : FieldH) (m : Int) (w : World) (hat : FieldsAt w w.heap.size v l) (hsm : SmallF maxLen l) (hnil : NilF v) (hm : w.cell? ⟨0, 0, none⟩ = some (.int .i64 m)) (ws : name.size ≤ maxLen) (wf : f.1.length ≤ maxLen ∧ f.2.length ≤ maxLen) :
    Calls Tryd.prog 6 #[v, .string name, fieldV f] w fun e w' => e = .returned (.bool true) ∧ Below w.heap.size w w' := by
  unfold fieldV
  obtain ⟨MN, hMN⟩ : ∃ X, textQ f.1 = X := ⟨_, rfl⟩
  obtain ⟨MB, hMB⟩ : ∃ X, textQ f.2 = X := ⟨_, rfl⟩
  have hMNs : MN.size = f.1.length := by rw [← hMN]; rfl
  have hMBs : MB.size = f.2.length := by rw [← hMB]; rfl
  have HMN := Lib.hid hMN
  have HMB := Lib.hid hMB
  rw [hMN, hMB]
  rw [← hMNs, ← hMBs] at wf
  obtain ⟨wf1, wf2⟩ := wf
  obtain ⟨wA, hwA⟩ : ∃ W, w.alloc (.cells #[.string MN, .string MB] 38) = W := ⟨_, rfl⟩
  have bA : Below w.heap.size w wA := by rw [← hwA]; exact (Below.refl _ _).alloc (Nat.le_refl _) _
  have zA : wA.heap.size = w.heap.size + 1 := by rw [← hwA]; simp
  have hhA : wA.heap[w.heap.size]? = some (.cells #[.string MN, .string MB] 38 (0, 0)) := by rw [← hwA]; exact heap_alloc_new w _
  have haw := awake10_any m wA (bound_abide hm bA)
  have hatA : FieldsAt wA wA.heap.size v l := (hat.below bA (Nat.le_refl _)).up bA.size
  have HAT : Hid (∀ W, Below wA.heap.size wA W → FieldsAt W W.heap.size v l) := Lib.hid fun W hW => (hatA.below hW (Nat.le_refl _)).up hW.size
  have hfew : Hid (∀ W, Below wA.heap.size wA W → Calls Tryd.prog 10 #[v] W (FewPost l W)) := Lib.hid fun W hW => few10_any W.heap.size v l W (HAT.out W hW) (Nat.le_refl _) hsm
  have CELL : Hid (∀ W, Below wA.heap.size wA W → W.cell? ⟨w.heap.size, 0, none⟩ = some (.string MN) ∧ W.cell? ⟨w.heap.size, 1, none⟩ = some (.string MB) ∧ Below wA.heap.size wA W) := Lib.hid fun W hW =>
    ⟨(hW.cell (p := ⟨w.heap.size, 0, none⟩) (by show w.heap.size < _; omega)).trans (Lib.cell_of_heap hhA 0), (hW.cell (p := ⟨w.heap.size, 1, none⟩) (by show w.heap.size < _; omega)).trans (Lib.cell_of_heap hhA 1), hW⟩
  have hfin : Hid (∀ W, Below wA.heap.size wA W → Below w.heap.size w W) := Lib.hid fun W hW => bA.trans (hW.mono bA.size)
  have Hnil := Lib.hid hnil
  have HZ := Lib.hid zA
  have hv := hat
  obtain ⟨ao, cp, rfl, q1, q2, _⟩ := hv
  unfold maxLen at ws wf1 wf2 q2
  clear hMN hMB hMNs hMBs hm hat hsm hnil hatA bA hhA zA
  go_enter Tryd.func6, Tryd.ntmps6
  go_wp2_with fail
  refine haw.mono ?_
  rintro e w1 ⟨rfl, hb1⟩
  clear haw hwA
  go_wp2_with fail
  refine (hfew.out _ hb1).mono ?_
  rintro e w2 ⟨b, rfl, hfb, hw2⟩
  have hb2 := hb1.trans (hw2.mono hb1.size)
  clear hfew hw2 hb1
  cases b with
  | false =>
    go_wp2
    go_ret
    exact ⟨rfl, hfin.out _ hb2⟩
  | true =>
    have HF := Lib.hid (hfb rfl)
    clear hfb
    obtain ⟨c20, c21, _⟩ := CELL.out w2 hb2
    by_cases h1 : 200 < name.size
    · go_wp2
      go_ret
      exact ⟨rfl, hfin.out _ hb2⟩
    by_cases h2 : 200 < MN.size
    · go_wp2
      go_ret
      exact ⟨rfl, hfin.out _ hb2⟩
    by_cases h3 : 1000 < MB.size
    · go_wp2
      go_ret
      exact ⟨rfl, hfin.out _ hb2⟩
    have hl64 : l.length ≤ 100 := HF.out.1
    have hfs : f.1.length ≤ 200 ∧ f.2.length ≤ 1000 := by
      have e1 : MN.size = f.1.length := by rw [← HMN.out]; rfl
      have e2 : MB.size = f.2.length := by rw [← HMB.out]; rfl
      omega
    obtain ⟨V, hV⟩ : ∃ X, textQ ((getH l name.data.toList).getD []) = X := ⟨_, rfl⟩
    obtain ⟨ok, hok⟩ : ∃ b, (getH l name.data.toList).isSome = b := ⟨_, rfl⟩
    obtain ⟨U, hU⟩ : ∃ X, textQ ((getH (l ++ [f]) name.data.toList).getD []) = X := ⟨_, rfl⟩
    obtain ⟨uo, huo⟩ : ∃ b, (getH (l ++ [f]) name.data.toList).isSome = b := ⟨_, rfl⟩
    obtain ⟨X, hX⟩ : ∃ X, textQ ((getH ([f] ++ l) name.data.toList).getD []) = X := ⟨_, rfl⟩
    obtain ⟨xo, hxo⟩ : ∃ b, (getH ([f] ++ l) name.data.toList).isSome = b := ⟨_, rfl⟩
    obtain ⟨S, hS⟩ : ∃ b, sameH f.1 name.data.toList = b := ⟨_, rfl⟩
    obtain ⟨NU, hNU⟩ : ∃ X, textQ (name.data.toList.map upH) = X := ⟨_, rfl⟩
    have hNUs : NU.size = name.size := by
      rw [← hNU]
      show (name.data.toList.map upH).length = _
      rw [List.length_map]
      rfl
    have hsmall : SmallF 1000000 l := fun x hx => by have := HF.out.small x hx; omega
    have hg1 : Hid (∀ W, Below wA.heap.size wA W → Calls Tryd.prog 15 #[.slice ao l.length cp, .string name] W fun e w' => e = .returned (.tuple #[.string V, .bool ok]) ∧ Below wA.heap.size wA w') := Lib.hid fun W hW => by
      refine (hget_any W.heap.size _ l name W (HAT.out W hW) (Nat.le_refl _) hsmall (by omega)).mono ?_
      rintro e w' ⟨rfl, hb⟩
      exact ⟨by unfold foundH; rw [hV, hok], hW.trans (hb.mono hW.size)⟩
    have hg2 : Hid (∀ W, Below wA.heap.size wA W → Calls Tryd.prog 15 #[.slice ao l.length cp, .string NU] W fun e w' => e = .returned (.tuple #[.string V, .bool ok]) ∧ Below wA.heap.size wA w') := Lib.hid fun W hW => by
      refine (hget_any W.heap.size _ l NU W (HAT.out W hW) (Nat.le_refl _) hsmall (by omega)).mono ?_
      rintro e w' ⟨rfl, hb⟩
      refine ⟨?_, hW.trans (hb.mono hW.size)⟩
      rw [show NU.data.toList = name.data.toList.map upH by rw [← hNU]; rfl, get_up]
      unfold foundH
      rw [hV, hok]
    have hg3 : Hid (∀ W v', FieldsAt W W.heap.size v' (l ++ [f]) → Calls Tryd.prog 15 #[v', .string name] W fun e w' => e = .returned (.tuple #[.string U, .bool uo]) ∧ Below W.heap.size W w') := Lib.hid fun W v' hv => by
      refine (hget_any W.heap.size v' (l ++ [f]) name W hv (Nat.le_refl _) (fun x hx => ?_) (by omega)).mono ?_
      · rcases List.mem_append.1 hx with h | h
        · exact hsmall x h
        · rw [List.mem_singleton.1 h]
          omega
      · rintro e w' ⟨rfl, hb⟩
        exact ⟨by unfold foundH; rw [hU, huo], hb⟩
    have hg4 : Hid (∀ W v', FieldsAt W W.heap.size v' ([f] ++ l) → Calls Tryd.prog 15 #[v', .string name] W fun e w' => e = .returned (.tuple #[.string X, .bool xo]) ∧ Below W.heap.size W w') := Lib.hid fun W v' hv => by
      refine (hget_any W.heap.size v' ([f] ++ l) name W hv (Nat.le_refl _) (fun x hx => ?_) (by omega)).mono ?_
      · rcases List.mem_append.1 hx with h | h
        · rw [List.mem_singleton.1 h]
          omega
        · exact hsmall x h
      · rintro e w' ⟨rfl, hb⟩
        exact ⟨by unfold foundH; rw [hX, hxo], hb⟩
    have hsame : Hid (∀ W, Calls Tryd.prog 19 #[.string MN, .string name] W fun e w' => e = .returned (.bool S) ∧ Below W.heap.size W w') := Lib.hid fun W => by
      have := hsame_any MN name W (by omega) (by omega)
      rw [show MN.data.toList = f.1 by rw [← HMN.out]; rfl, hS] at this
      exact this
    have Hcases := Lib.hid (gets_facts l f name.data.toList hV hok hU huo hX hxo hS HMB.out)
    have HNU := Lib.hid hNU
    clear hV hok hU huo hX hxo hS hNU hNUs hsmall hfs
    go_wp2_with fail
    refine (hg1.out _ hb2).mono ?_
    rintro e w3 ⟨rfl, hb3⟩
    clear hg1 hb2 c20 c21
    obtain ⟨g, cap, fz, w4, hcv, hgB, hnc, hcm, hrow4, hw4⟩ := bytes_up w3 name (by omega)
    have hb4 := hb3.trans (hw4.mono hb3.size)
    have hgA : wA.heap.size ≤ g := by have := hb3.size; omega
    have Hrow4 := Lib.hid hrow4
    unfold maxLen at hcm
    clear hw4 hrow4 hgB hb3
    go_wp2
    go_loopw [10] (fun iv wr => ∃ i : Nat, i ≤ name.size ∧ iv = .int .i64 i ∧ Hid (UpRow wr g cap fz (upsH i name.data.toList)) ∧ Below wA.heap.size wA wr) (fun iv _ => name.size - (intOf iv).toNat)
    case atStart => exact ⟨0, by omega, rfl, Hrow4, hb4⟩
    case round =>
      obtain ⟨i, hi, rfl, hrow, hbr⟩ := hrel
      have hnl : name.data.toList.length = name.size := rfl
      by_cases hlt : i < name.size
      · have hup := ups_len i name.data.toList
        obtain ⟨hc, hfz⟩ := hrow.out.at i (by omega)
        rw [ups_get i _ (by omega) (by omega)] at hc
        have hset := ups_set i name.data.toList (by omega)
        have hsame2 := ups_same i name.data.toList (by omega)
        obtain ⟨c, hcc⟩ : ∃ c, name.data.toList[i]'(by omega) = c := ⟨_, rfl⟩
        rw [hcc] at hc hset hsame2
        have Hset := Lib.hid hset
        have Hsame2 := Lib.hid hsame2
        have hwr : IntKind.i64.wrap ((i : Int) + 1) = (i : Int) + 1 := by rw [IntWalk.i64_in _ (by omega)]
        clear hset hsame2 hcc hup hnl
        by_cases h97 : 97 ≤ c.toNat
        · by_cases h122 : c.toNat ≤ 122
          · have hu : upH c = c - 32 := by unfold upH; rw [if_pos ⟨h97, h122⟩]
            have hsub : IntKind.u8.wrap ((c.toNat : Int) - 32) = ((c - 32).toNat : Int) := by
              rw [IntKind.wrap_u8]
              have := UInt8.toNat_sub c 32
              have e32 : (32 : UInt8).toNat = 32 := rfl
              rw [e32] at this
              omega
            have hrow2 := hrow.out.set i (c - 32)
            rw [← hu, Hset.out, hu] at hrow2
            have Hrow2 := Lib.hid hrow2
            have hb2 : Below wA.heap.size wA (wr.setCell ⟨g, i, none⟩ (.int .u8 ((c - 32).toNat : Int))) := hbr.setCell (p := ⟨g, i, none⟩) hgA _
            clear hrow2 hu
            go_wp2
            go_roundw
            case rel => exact ⟨i + 1, by omega, by go_num, Hrow2, hb2⟩
            case measure => simp [intOf]; omega
          · have hu : upH c = c := by unfold upH; rw [if_neg (fun h => h122 h.2)]
            have Hrow2 := Lib.hid (show UpRow wr g cap fz (upsH (i + 1) name.data.toList) by rw [Hsame2.out hu]; exact hrow.out)
            clear hu
            go_wp2
            go_roundw
            case rel => exact ⟨i + 1, by omega, by go_num, Hrow2, hbr⟩
            case measure => simp [intOf]; omega
        · have hu : upH c = c := by unfold upH; rw [if_neg (fun h => h97 h.1)]
          have Hrow2 := Lib.hid (show UpRow wr g cap fz (upsH (i + 1) name.data.toList) by rw [Hsame2.out hu]; exact hrow.out)
          clear hu
          go_wp2
          go_roundw
          case rel => exact ⟨i + 1, by omega, by go_num, Hrow2, hbr⟩
          case measure => simp [intOf]; omega
      · obtain rfl : i = name.size := by omega
        have hcv2 : (convert 42 9 (.slice (some ⟨g, 0, none⟩) name.size cap)).run Tryd.prog wr = .ok (.string NU) wr := by
          have := hrow.out.conv
          rw [ups_len, hnl] at this
          rw [this, ← HNU.out, ← hnl, ups_all]
        clear hrow hnl
        go_wp2_with fail
        refine (hg2.out _ hbr).mono ?_
        rintro e w5 ⟨rfl, hb5⟩
        clear hg2 hbr hcv2
        have hS : Hid (∀ W, Below w5.heap.size w5 W → W.cell? ⟨w.heap.size, 0, none⟩ = some (.string MN) ∧ W.cell? ⟨w.heap.size, 1, none⟩ = some (.string MB) ∧ Below w5.heap.size w5 W) := Lib.hid fun W hW => by
          obtain ⟨k0, k1, _⟩ := CELL.out W (hb5.trans (hW.mono hb5.size))
          exact ⟨k0, k1, hW⟩
        have hA5 := HAT.out w5 hb5
        have r0 : Below w5.heap.size w5 w5 := Below.refl _ w5
        have r1 := r0.alloc r0.size (.cells #[] 38)
        have r2 := r1.alloc r1.size (.cells #[.string MN, .string MB] 38)
        have r3 := r0.alloc r0.size (.cells #[.string MN, .string MB] 38)
        have r4 := r3.alloc r3.size (.cells #[] 38)
        have hS0 := Lib.hid (hS.out _ r0.drew)
        have hS1 := Lib.hid (hS.out _ r1.drew)
        have hS2 := Lib.hid (hS.out _ r2.drew)
        have hS3 := Lib.hid (hS.out _ r3.drew)
        have hS4 := Lib.hid (hS.out _ r4.drew)
        have e1 : FieldsOwn (w5.alloc (.cells #[] 38)) w5.heap.size (.slice (some ⟨w5.heap.size, 0, none⟩) 0 0) [] := own_empty_ge w5 _ (Nat.le_refl _)
        have hE1 : Hid (FieldsOwn (w5.alloc (.cells #[] 38)).drew w5.heap.size (.slice (some ⟨w5.heap.size, 0, none⟩) 0 0) []) := Lib.hid (World.ownsRow.drew e1)
        have hE2 : Hid (FieldsOwn ((w5.alloc (.cells #[] 38)).alloc (.cells #[.string MN, .string MB] 38)).drew w5.heap.size (.slice (some ⟨w5.heap.size, 0, none⟩) 0 0) []) := Lib.hid (World.ownsRow.drew (World.ownsRow.alloc e1 _))
        have z3 : (w5.alloc (.cells #[.string MN, .string MB] 38)).heap.size = w5.heap.size + 1 := World.size_alloc _ _
        have z1 : (w5.alloc (.cells #[] 38)).heap.size = w5.heap.size + 1 := World.size_alloc _ _
        have hE3 : Hid (FieldsOwn ((w5.alloc (.cells #[.string MN, .string MB] 38)).alloc (.cells #[] 38)).drew w5.heap.size (.slice (some ⟨w5.heap.size + 1, 0, none⟩) 0 0) []) := Lib.hid (by
          have := own_empty_ge (w5.alloc (.cells #[.string MN, .string MB] 38)) w5.heap.size r3.size
          rw [z3] at this
          exact World.ownsRow.drew this)
        have hA1 := Lib.hid (hA5.below r1.drew (Nat.le_refl _))
        have hA2 := Lib.hid (hA5.below r2.drew (Nat.le_refl _))
        have hA3 := Lib.hid (hA5.below r4.drew (Nat.le_refl _))
        have hh2 : Hid (((w5.alloc (.cells #[] 38)).alloc (.cells #[.string MN, .string MB] 38)).drew.heap[w5.heap.size + 1]? = some (.cells #[.string MN, .string MB] 38 (0, 0))) := Lib.hid (by
          have := heap_alloc_new (w5.alloc (.cells #[] 38)) (.cells #[.string MN, .string MB] 38)
          rw [z1] at this
          exact this)
        have hh3 : Hid (((w5.alloc (.cells #[.string MN, .string MB] 38)).alloc (.cells #[] 38)).drew.heap[w5.heap.size]? = some (.cells #[.string MN, .string MB] 38 (0, 0))) := Lib.hid (by
          have h1 := heap_alloc_new w5 (.cells #[.string MN, .string MB] 38)
          have h2 := ((Below.refl _ (w5.alloc (.cells #[.string MN, .string MB] 38))).alloc (Nat.le_refl _) (.cells #[] 38)).block w5.heap.size (by omega)
          exact h2.trans h1)
        have hz2 : ((w5.alloc (.cells #[] 38)).alloc (.cells #[.string MN, .string MB] 38)).drew.heap.size = w5.heap.size + 2 := by
          show ((w5.alloc (.cells #[] 38)).alloc (.cells #[.string MN, .string MB] 38)).heap.size = _
          rw [World.size_alloc, z1]
        have hz4 : ((w5.alloc (.cells #[.string MN, .string MB] 38)).alloc (.cells #[] 38)).drew.heap.size = w5.heap.size + 2 := by
          show ((w5.alloc (.cells #[.string MN, .string MB] 38)).alloc (.cells #[] 38)).heap.size = _
          rw [World.size_alloc, z3]
        have HZ2 := Lib.hid hz2
        have HZ4 := Lib.hid hz4
        have hsing : Hid (∀ (W : World) (k : Nat), W.heap[k]? = some (.cells #[.string MN, .string MB] 38 (0, 0)) → FieldsAt W W.heap.size (.slice (some ⟨k, 0, none⟩) 1 1) [f]) := Lib.hid fun W k h => by
          rw [← HMN.out, ← HMB.out] at h
          exact single_at h
        have hnil1 : Hid (∀ k, NilF (.slice (some ⟨k, 0, none⟩) 1 1)) := Lib.hid fun k => ⟨_, _, _, rfl, fun e => by cases e⟩
        have hl0 : ([] : List FieldH).length + l.length ≤ 1000000 := by simp; omega
        have hl1 : l.length + [f].length ≤ 1000000 := by simp; omega
        have HL0 := Lib.hid hl0
        have HL1 := Lib.hid hl1
        have HL2 : Hid ([f].length + l.length ≤ 1000000) := Lib.hid (by simp; omega)
        clear r0 r1 r2 r3 r4 z1 z3 hz2 hz4 hl0 hl1 hA5 e1
        go_wp2_with fail
        go_region_held_law (fun W => W.cell? ⟨w.heap.size, 0, none⟩ = some (.string MN) ∧ W.cell? ⟨w.heap.size, 1, none⟩ = some (.string MB) ∧ Below w5.heap.size w5 W)
          (first | assumption | exact hS0.out | exact hS1.out | exact hS2.out | exact hS3.out | exact hS4.out | (trace_state; fail))
          (first
            | (refine step_append_fields rfl (.tmp 81) (.tmp 82) rfl w5.heap.size (.slice (some ⟨w5.heap.size, 0, none⟩) 0 0) [] rfl hE1.out hS1.out.2.2.size _ l w5.heap.size rfl hA1.out Hnil.out HL0.out ?_; intro v6 w6 hown6 hg6; have hB6 : Below w5.heap.size w5 w6 := hS1.out.2.2.grown hg6 hS1.out.2.2.size (fun q hk => (row_block hE1.out hk).1); have hS6 := hS.out w6 hB6; have hS7 := hS.out _ (hB6.alloc hB6.size (.cells #[.string MN, .string MB] 38)); have hown7 := Lib.hid (World.ownsRow.alloc hown6 (.cells #[.string MN, .string MB] 38)); have hF7 := Lib.hid (hsing.out _ _ (heap_alloc_new w6 (.cells #[.string MN, .string MB] 38))); clear hown6 hg6 hB6)
            | (refine step_append_fields rfl (.tmp 81) (.tmp 82) rfl w5.heap.size (.slice (some ⟨w5.heap.size, 0, none⟩) 0 0) [] rfl hE2.out hS2.out.2.2.size _ l w5.heap.size rfl hA2.out Hnil.out HL0.out ?_; intro v6 w6 hown6 hg6; have hB6 : Below w5.heap.size w5 w6 := hS2.out.2.2.grown hg6 hS2.out.2.2.size (fun q hk => (row_block hE2.out hk).1); have hS7 := hS.out w6 hB6; have hown7 := Lib.hid hown6; have hF7 := Lib.hid (hsing.out w6 (w5.heap.size + 1) ((hg6.block (w5.heap.size + 1) (by have := HZ2.out; omega) (by simp [Value.ownBlock])).trans hh2.out)); clear hown6 hg6 hB6)
            | (refine step_append_fields rfl (.tmp 81) (.tmp 82) rfl w5.heap.size (.slice (some ⟨w5.heap.size + 1, 0, none⟩) 0 0) [] rfl hE3.out hS4.out.2.2.size _ l w5.heap.size rfl hA3.out Hnil.out HL0.out ?_; intro v6 w6 hown6 hg6; have hB6 : Below w5.heap.size w5 w6 := hS4.out.2.2.grown hg6 hS4.out.2.2.size (fun q hk => (row_block hE3.out hk).1); have hS7 := hS.out w6 hB6; have hown7 := Lib.hid hown6; have hF7 := Lib.hid (hsing.out w6 w5.heap.size ((hg6.block w5.heap.size (by have := HZ4.out; omega) (by simp [Value.ownBlock])).trans hh3.out)); clear hown6 hg6 hB6)
            | (refine step_append_fields rfl (.tmp 83) (.tmp 85) rfl w5.heap.size v6 l rfl hown7.out hS7.2.2.size _ [f] _ rfl hF7.out (hnil1.out _) HL1.out ?_; intro v8 w8 hown8 hg8; have hB8 : Below w5.heap.size w5 w8 := hS7.2.2.grown hg8 hS7.2.2.size (fun q hk => (row_block hown7.out hk).1); have hS8 := hS.out w8 hB8; have hC8 := hg3.out w8 v8 hown8.at; clear hown8 hg8)
            | (go_at_call 15; refine hC8.mono ?_; rintro e w9 ⟨rfl, hw9⟩; have hS9 := hS.out w9 (hB8.trans (hw9.mono hB8.size)); clear hw9))
        all_goals
          have hb9 := hb5.trans (hS9.2.2.mono hb5.size)
          obtain ⟨c90, c91, _⟩ := hS9
          have hown10 := own_single w9 f
          rw [HMN.out, HMB.out] at hown10
          have hA10 := (HAT.out w9 hb9).below ((Below.refl w9.heap.size w9).alloc (Nat.le_refl _) (.cells #[.string MN, .string MB] 38)) (Nat.le_refl _)
          have h10z := World.size_alloc w9 (.cells #[.string MN, .string MB] 38)
          clear hS0 hS1 hS2 hS3 hS4 hE1 hE2 hE3 hA1 hA2 hA3 hh2 hh3 HZ2 HZ4 hsing hnil1 hS7 hown7 hF7 hC8 hB8 hS8 hS hg3
          go_wp2_with (first | (at_builtin; refine wpList_append_fields rfl _ _ rfl w9.heap.size _ [f] rfl hown10 (by omega) _ l w9.heap.size rfl hA10 Hnil.out HL2.out ?_) | fail)
          intro v11 w11 hown11 hg11
          have hq11 : Below w9.heap.size w9 w11 := ((Below.refl w9.heap.size w9).alloc (Nat.le_refl _) (.cells #[.string MN, .string MB] 38)).grown hg11 (by omega) fun q hk => (row_block hown10 hk).1
          have hb11 := hb9.trans (hq11.mono hb9.size)
          have hC11 := hg4.out w11 v11 hown11.at
          clear hown10 hA10 h10z hg11 hown11 hq11 hb9 c90 c91 hg4
          go_wp2_with fail
          refine hC11.mono ?_
          rintro e w12 ⟨rfl, hw12⟩
          have hb12 := hb11.trans (hw12.mono hb11.size)
          obtain ⟨d0, d1, _⟩ := CELL.out w12 hb12
          have hsm12 := hsame.out w12
          clear hC11 hb11 hsame hw12
          cases S with
          | true =>
            obtain ⟨rfl, rfl, k1, k2⟩ := Hcases.out.1 rfl
            cases ok with
            | true =>
              obtain ⟨rfl, rfl⟩ := k1 rfl
              clear k1 k2 Hcases
              go_wp2_with fail
              refine hsm12.mono ?_
              rintro e w13 ⟨rfl, hw13⟩
              have hb13 := hb12.trans (hw13.mono hb12.size)
              obtain ⟨x0, x1, _⟩ := CELL.out w13 hb13
              go_wp2
              go_ret
              exact ⟨rfl, hfin.out _ hb13⟩
            | false =>
              obtain ⟨rfl, rfl⟩ := k2 rfl
              clear k1 k2 Hcases
              go_wp2_with fail
              refine hsm12.mono ?_
              rintro e w13 ⟨rfl, hw13⟩
              have hb13 := hb12.trans (hw13.mono hb12.size)
              obtain ⟨x0, x1, _⟩ := CELL.out w13 hb13
              go_wp2
              go_ret
              exact ⟨rfl, hfin.out _ hb13⟩
          | false =>
            obtain ⟨rfl, rfl, rfl, rfl⟩ := Hcases.out.2 rfl
            clear Hcases
            cases uo with
            | true =>
              go_wp2_with fail
              refine hsm12.mono ?_
              rintro e w13 ⟨rfl, hw13⟩
              have hb13 := hb12.trans (hw13.mono hb12.size)
              obtain ⟨x0, x1, _⟩ := CELL.out w13 hb13
              go_wp2
              go_ret
              exact ⟨rfl, hfin.out _ hb13⟩
            | false =>
              go_wp2_with fail
              refine hsm12.mono ?_
              rintro e w13 ⟨rfl, hw13⟩
              have hb13 := hb12.trans (hw13.mono hb12.size)
              obtain ⟨x0, x1, _⟩ := CELL.out w13 hb13
              go_wp2
              go_ret
              exact ⟨rfl, hfin.out _ hb13⟩
end Go.Proofs.YtneihcdeflfahaaDoor
