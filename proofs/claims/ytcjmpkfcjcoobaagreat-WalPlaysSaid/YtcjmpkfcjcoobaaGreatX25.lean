/-
  Texts of this proof, put together: R8D.
-/
import Derived.Test.YtcjmpkfcjcoobaaGreatX24
import Derived.Deep.QuietTactic
import Derived.BigQuiet
namespace Go.Proofs.YtcjmpkfcjcoobaaGreat
open Go.RowKit

/-- A change as a value. -/
def chV (c : Ch) : Value := .agg #[.string (textQ c.key), .string (textQ c.val), .bool c.gone]
/-- A pair is appended to a row of somebody's own. -/
theorem wpList_append_pair {w : World} {ops : Array Oper} {rest : List Oper} {o : Oper} {a : Act} {Q : Exit → Act → World → Prop} (hgd : o.guard = none) (s x : Operand)
    (ho : o.op = .call { callee := .builtin .append, args := #[s, x], argTypes := #[47, 47] }) (B : Nat) (v : Value) (l : List PairP) (p : PairP) (hs : a.eval s = v) (hown : PairsAt w B v l) (hB : B ≤ w.heap.size) (hl : l.length ≤ 1000000)
    (b c : Nat) (hx : a.eval x = .slice (some ⟨b, 0, none⟩) 1 c) (h0 : w.cell? ⟨b, 0, none⟩ = some (.string (textQ p.1))) (h1 : w.cell? ⟨b, 1, none⟩ = some (.string (textQ p.2)))
    (h : ∀ v' w', PairsAt w' B v' (l ++ [p]) → w.grownBy w' v.ownBlock → wpList Tryz.prog ops Q rest (a.put o.dst v') w') : wpList Tryz.prog ops Q (o :: rest) a w := by
  obtain ⟨i0, hi, hz0, hz1, hz2⟩ := info_parts infoPair
  refine wpList_append_own w hgd s x 47 ho B 111 i0 (.agg #[.string ⟨#[]⟩, .string ⟨#[]⟩]) 2 32 Tryz.underlying47 hi hz0 hz1 hz2 rfl (by decide) v l.length (pairsCells l) hs hown ⟨b, 0, none⟩ 1 c (pairCells p) hx rfl (fun j u hj => ?_) (fun u hu => ?_) (by unfold maxLen; omega) (by omega) hB (fun v' w' q1 q2 _ => ?_)
  · rw [Addr.add_lit, Nat.zero_add]
    match j, hj with
    | 0, hj => cases hj; exact h0
    | 1, hj => cases hj; exact h1
    | j + 2, hj => cases hj
  · simp only [pairCells, List.mem_cons, List.not_mem_nil, or_false] at hu
    rcases hu with rfl | rfl <;> rfl
  · refine h v' w' ?_ q2
    unfold PairsAt
    rw [pairs_snoc, List.length_append]
    exact q1

set_option maxRecDepth 100000 in
set_option maxHeartbeats 4000000 in
theorem rdone_any (B : Nat) (v : Value) (l : List PairP) (c : Ch) (w : World) (h : PairsAt w B v l) (hl : l.length ≤ 100000) :
    Calls Tryz.prog 41 #[v, chV c] w fun e w' => ∃ v', e = .returned v' ∧ PairsAt w' w.heap.size v' (doneP c (!c.gone) l) ∧ Below w.heap.size w w' := by
  obtain ⟨ao, cap, rfl, hc1, hc2, hat⟩ := h.slice
  clear h
  have Hat := Lib.hid hat
  clear hat
  obtain ⟨n, hn⟩ : ∃ n, l.length = n := ⟨_, rfl⟩
  have Hn := Lib.hid hn
  rw [hn] at hl ⊢
  clear hn hc1 hc2
  obtain ⟨K, V, gone⟩ := c
  obtain ⟨KT, hKT⟩ : ∃ KT, textQ K = KT := ⟨_, rfl⟩
  obtain ⟨VT, hVT⟩ : ∃ VT, textQ V = VT := ⟨_, rfl⟩
  unfold chV
  simp only [hKT, hVT]
  have HK := Lib.hid hKT
  have HV := Lib.hid hVT
  clear hKT hVT
  go_enter Tryz.func41, Tryz.ntmps41
  go_wp2
  have hB0 : Below w.heap.size w (w.alloc (.cells #[.string KT, .string VT, .bool gone] 37)) := (Below.refl _ w).alloc (Nat.le_refl _) _
  have hc0 : (w.alloc (.cells #[.string KT, .string VT, .bool gone] 37)).heap[w.heap.size]? = some (.cells #[.string KT, .string VT, .bool gone] 37 (0, 0)) := heap_alloc_new w _
  have hz1 : (w.alloc (.cells #[.string KT, .string VT, .bool gone] 37)).heap.size = w.heap.size + 1 := by simp
  generalize w.alloc (.cells #[.string KT, .string VT, .bool gone] 37) = w1 at hB0 hc0 hz1 ⊢
  have hk0 : w1.cell? ⟨w.heap.size, 0, none⟩ = some (.string KT) := by rw [Lib.cell_of_heap hc0]; rfl
  have hv0 : w1.cell? ⟨w.heap.size, 1, none⟩ = some (.string VT) := by rw [Lib.cell_of_heap hc0]; rfl
  clear hc0
  go_loopw [5, 6, 7] (fun o tv iv wr => ∃ (i : Nat) (td : Bool) (li : List PairP), i ≤ n ∧ iv = .int .i64 i ∧ tv = .bool td ∧ li.length ≤ 2 * i ∧ Hid (doneP ⟨K, V, gone⟩ (!gone) l = li ++ doneP ⟨K, V, gone⟩ td (l.drop i)) ∧ PairsAt wr (w.heap.size + 1) o li ∧ Below (w.heap.size + 1) w1 wr) (fun _ _ iv _ => n - (intOf iv).toNat)
  case atStart => exact ⟨0, !gone, [], by omega, rfl, rfl, by simp, Lib.hid rfl, World.ownsRow_nil _ _ _ _, Below.refl _ _⟩
  case round =>
    obtain ⟨i, td, li, hi, rfl, rfl, hll, hf, hown, hbr⟩ := hrel
    have hbw : Below w.heap.size w wr := hB0.trans (hbr.mono (by omega))
    have hbz := hbr.size
    have hk1 : wr.cell? ⟨w.heap.size, 0, none⟩ = some (.string KT) := (hbr.cell (p := ⟨w.heap.size, 0, none⟩) (by show w.heap.size < w.heap.size + 1; omega)).trans hk0
    have hv1 : wr.cell? ⟨w.heap.size, 1, none⟩ = some (.string VT) := (hbr.cell (p := ⟨w.heap.size, 1, none⟩) (by show w.heap.size < w.heap.size + 1; omega)).trans hv0
    by_cases hlt : i < n
    · obtain ⟨g, rfl, hg, hk, hv⟩ := Hat.out i (by rw [Hn.out]; exact hlt)
      have hil : i < l.length := by rw [Hn.out]; exact hlt
      have hd : l.drop i = l[i] :: l.drop (i + 1) := List.drop_eq_getElem_cons hil
      obtain ⟨p, hp⟩ : ∃ p, l[i] = p := ⟨_, rfl⟩
      rw [hp] at hk hv hd
      have hpk : wr.cell? ⟨g, i * 2, none⟩ = some (.string (textQ p.1)) := (hbw.cell (p := ⟨g, i * 2, none⟩) hg).trans hk
      have hpv : wr.cell? ⟨g, i * 2 + 1, none⟩ = some (.string (textQ p.2)) := (hbw.cell (p := ⟨g, i * 2 + 1, none⟩) hg).trans hv
      have hf2 := hf.out
      rw [hd, doneP] at hf2
      have hbe := text_beq K p.1
      have hbe2 := text_beq p.1 K
      have hbl := text_less K p.1
      rw [HK.out] at hbe hbe2 hbl
      clear hp hd hf hil
      cases td with
      | false =>
        by_cases he : p.1 = K
        · rw [if_pos he, Bool.false_and, if_neg Bool.false_ne_true, Bool.false_and, List.nil_append, List.nil_append] at hf2
          rw [show (p.1 == K) = true by simp [he]] at hbe2
          have Hf := Lib.hid hf2
          clear hf2 he hbe hbl
          go_wp2_with fail
          go_quiet (fail)
          have hown2 := ownsRow_below4 hown (below_drewN (Below.refl _ wr) nq)
          have hbr2 := below_drewN hbr nq
          have hz2 : (wr.drewN nq).heap.size = wr.heap.size := rfl
          generalize wr.drewN nq = wd at hown2 hbr2 hz2 ⊢
          clear hown hbr hbw hk1 hv1 hpk hpv
          have hbw : Below w.heap.size w wd := hB0.trans (hbr2.mono (by omega))
          have hk1 : wd.cell? ⟨w.heap.size, 0, none⟩ = some (.string KT) := (hbr2.cell (p := ⟨w.heap.size, 0, none⟩) (by show w.heap.size < w.heap.size + 1; omega)).trans hk0
          have hv1 : wd.cell? ⟨w.heap.size, 1, none⟩ = some (.string VT) := (hbr2.cell (p := ⟨w.heap.size, 1, none⟩) (by show w.heap.size < w.heap.size + 1; omega)).trans hv0
          have hpk : wd.cell? ⟨g, i * 2, none⟩ = some (.string (textQ p.1)) := (hbw.cell (p := ⟨g, i * 2, none⟩) hg).trans hk
          have hpv : wd.cell? ⟨g, i * 2 + 1, none⟩ = some (.string (textQ p.2)) := (hbw.cell (p := ⟨g, i * 2 + 1, none⟩) hg).trans hv
          go_wp2_with fail
          go_quiet (fail)
          have hown3 := ownsRow_below4 hown2 (below_drewN (Below.refl _ wd) nq)
          have hbr3 := below_drewN hbr2 nq
          have hz3 : (wd.drewN nq).heap.size = wd.heap.size := rfl
          generalize wd.drewN nq = we at hown3 hbr3 hz3 ⊢
          clear hown2 hbr2 hbw hk1 hv1 hpk hpv
          have hbw : Below w.heap.size w we := hB0.trans (hbr3.mono (by omega))
          have hk1 : we.cell? ⟨w.heap.size, 0, none⟩ = some (.string KT) := (hbr3.cell (p := ⟨w.heap.size, 0, none⟩) (by show w.heap.size < w.heap.size + 1; omega)).trans hk0
          have hv1 : we.cell? ⟨w.heap.size, 1, none⟩ = some (.string VT) := (hbr3.cell (p := ⟨w.heap.size, 1, none⟩) (by show w.heap.size < w.heap.size + 1; omega)).trans hv0
          have hpk : we.cell? ⟨g, i * 2, none⟩ = some (.string (textQ p.1)) := (hbw.cell (p := ⟨g, i * 2, none⟩) hg).trans hk
          have hpv : we.cell? ⟨g, i * 2 + 1, none⟩ = some (.string (textQ p.2)) := (hbw.cell (p := ⟨g, i * 2 + 1, none⟩) hg).trans hv
          go_wp2
          go_roundw
          case rel => exact ⟨i + 1, false, li, by omega, by go_num, rfl, by omega, Hf, hown3, hbr3⟩
          case measure => simp [intOf]; omega
        · rw [if_neg he, Bool.false_and, if_neg Bool.false_ne_true, Bool.false_and, List.nil_append, ← List.append_assoc] at hf2
          rw [show (p.1 == K) = false by simp [he]] at hbe2
          have Hf := Lib.hid hf2
          clear hf2 he hbe hbl
          go_wp2_with fail
          go_quiet (fail)
          have hown2 := ownsRow_below4 hown (below_drewN (Below.refl _ wr) nq)
          have hbr2 := below_drewN hbr nq
          have hz2 : (wr.drewN nq).heap.size = wr.heap.size := rfl
          generalize wr.drewN nq = wd at hown2 hbr2 hz2 ⊢
          clear hown hbr hbw hk1 hv1 hpk hpv
          have hbw : Below w.heap.size w wd := hB0.trans (hbr2.mono (by omega))
          have hk1 : wd.cell? ⟨w.heap.size, 0, none⟩ = some (.string KT) := (hbr2.cell (p := ⟨w.heap.size, 0, none⟩) (by show w.heap.size < w.heap.size + 1; omega)).trans hk0
          have hv1 : wd.cell? ⟨w.heap.size, 1, none⟩ = some (.string VT) := (hbr2.cell (p := ⟨w.heap.size, 1, none⟩) (by show w.heap.size < w.heap.size + 1; omega)).trans hv0
          have hpk : wd.cell? ⟨g, i * 2, none⟩ = some (.string (textQ p.1)) := (hbw.cell (p := ⟨g, i * 2, none⟩) hg).trans hk
          have hpv : wd.cell? ⟨g, i * 2 + 1, none⟩ = some (.string (textQ p.2)) := (hbw.cell (p := ⟨g, i * 2 + 1, none⟩) hg).trans hv
          go_wp2_with fail
          go_quiet (fail)
          have hown3 := ownsRow_below4 hown2 (below_drewN (Below.refl _ wd) nq)
          have hbr3 := below_drewN hbr2 nq
          have hz3 : (wd.drewN nq).heap.size = wd.heap.size := rfl
          generalize wd.drewN nq = we at hown3 hbr3 hz3 ⊢
          clear hown2 hbr2 hbw hk1 hv1 hpk hpv
          have hbw : Below w.heap.size w we := hB0.trans (hbr3.mono (by omega))
          have hk1 : we.cell? ⟨w.heap.size, 0, none⟩ = some (.string KT) := (hbr3.cell (p := ⟨w.heap.size, 0, none⟩) (by show w.heap.size < w.heap.size + 1; omega)).trans hk0
          have hv1 : we.cell? ⟨w.heap.size, 1, none⟩ = some (.string VT) := (hbr3.cell (p := ⟨w.heap.size, 1, none⟩) (by show w.heap.size < w.heap.size + 1; omega)).trans hv0
          have hpk : we.cell? ⟨g, i * 2, none⟩ = some (.string (textQ p.1)) := (hbw.cell (p := ⟨g, i * 2, none⟩) hg).trans hk
          have hpv : we.cell? ⟨g, i * 2 + 1, none⟩ = some (.string (textQ p.2)) := (hbw.cell (p := ⟨g, i * 2 + 1, none⟩) hg).trans hv
          have happ := hown3.alloc (.cells #[.string (textQ p.1), .string (textQ p.2)] 111)
          go_wp2_with (at_builtin; refine wpList_append_pair rfl _ _ rfl (w.heap.size + 1) u5 li p rfl happ (by simp; omega) (by (try simp); omega) wr.heap.size 1 rfl ?n1 ?m1 ?_)
          case n1 => (rw [← hz2, ← hz3]; go_simp)
          case m1 => (rw [← hz2, ← hz3]; go_simp)
          intro vwf wf hown4 hgrow
          have hbr4 : Below (w.heap.size + 1) w1 wf := ((hbr3).alloc (by omega) _).grown hgrow (by simp; omega) fun k hk => (row_block happ hk).1
          clear happ hgrow hown3 hbr3 hbw hk1 hv1 hpk hpv
          go_wp2
          go_roundw
          case rel => exact ⟨i + 1, false, li ++ [p], by omega, by go_num, rfl, by simp; omega, Hf, hown4, hbr4⟩
          case measure => simp [intOf]; omega
      | true =>
        by_cases ha : (lessP K p.1 || K == p.1) = true
        · have hab : (Op.bytesLess KT.toList (textQ p.1).toList || (KT.toList == (textQ p.1).toList)) = true := by rw [hbl, hbe]; exact ha
          rw [Bool.true_and, if_pos ha, ha, Bool.not_true] at hf2
          by_cases he : p.1 = K
          · rw [if_pos he, List.nil_append, ← List.append_assoc] at hf2
            rw [show (p.1 == K) = true by simp [he]] at hbe2
            have Hf := Lib.hid hf2
            clear hf2 he hbe hbl ha
            go_wp2_with fail
            go_quiet (fail)
            have hown2 := ownsRow_below4 hown (below_drewN (Below.refl _ wr) nq)
            have hbr2 := below_drewN hbr nq
            have hz2 : (wr.drewN nq).heap.size = wr.heap.size := rfl
            generalize wr.drewN nq = wd at hown2 hbr2 hz2 ⊢
            clear hown hbr hbw hk1 hv1 hpk hpv
            have hbw : Below w.heap.size w wd := hB0.trans (hbr2.mono (by omega))
            have hk1 : wd.cell? ⟨w.heap.size, 0, none⟩ = some (.string KT) := (hbr2.cell (p := ⟨w.heap.size, 0, none⟩) (by show w.heap.size < w.heap.size + 1; omega)).trans hk0
            have hv1 : wd.cell? ⟨w.heap.size, 1, none⟩ = some (.string VT) := (hbr2.cell (p := ⟨w.heap.size, 1, none⟩) (by show w.heap.size < w.heap.size + 1; omega)).trans hv0
            have hpk : wd.cell? ⟨g, i * 2, none⟩ = some (.string (textQ p.1)) := (hbw.cell (p := ⟨g, i * 2, none⟩) hg).trans hk
            have hpv : wd.cell? ⟨g, i * 2 + 1, none⟩ = some (.string (textQ p.2)) := (hbw.cell (p := ⟨g, i * 2 + 1, none⟩) hg).trans hv
            have happ := hown2.alloc (.cells #[.string KT, .string VT] 111)
            go_wp2_with (at_builtin; refine wpList_append_pair rfl _ _ rfl (w.heap.size + 1) u5 li (K, V) rfl happ (by simp; omega) (by (try simp); omega) wr.heap.size 1 rfl ?n2 ?m2 ?_)
            case n2 => exact HK.out.symm
            case m2 => exact HV.out.symm
            intro vwa wa hownA hgrow
            have hbrA : Below (w.heap.size + 1) w1 wa := ((hbr2).alloc (by omega) _).grown hgrow (by simp; omega) fun k hk => (row_block happ hk).1
            clear happ hgrow hown2 hbr2 hbw hk1 hv1 hpk hpv
            have hza := hbrA.size
            have hbw : Below w.heap.size w wa := hB0.trans (hbrA.mono (by omega))
            have hk1 : wa.cell? ⟨w.heap.size, 0, none⟩ = some (.string KT) := (hbrA.cell (p := ⟨w.heap.size, 0, none⟩) (by show w.heap.size < w.heap.size + 1; omega)).trans hk0
            have hv1 : wa.cell? ⟨w.heap.size, 1, none⟩ = some (.string VT) := (hbrA.cell (p := ⟨w.heap.size, 1, none⟩) (by show w.heap.size < w.heap.size + 1; omega)).trans hv0
            have hpk : wa.cell? ⟨g, i * 2, none⟩ = some (.string (textQ p.1)) := (hbw.cell (p := ⟨g, i * 2, none⟩) hg).trans hk
            have hpv : wa.cell? ⟨g, i * 2 + 1, none⟩ = some (.string (textQ p.2)) := (hbw.cell (p := ⟨g, i * 2 + 1, none⟩) hg).trans hv
            go_wp2_with fail
            go_quiet (fail)
            have hown3 := ownsRow_below4 hownA (below_drewN (Below.refl _ wa) nq)
            have hbr3 := below_drewN hbrA nq
            have hz3 : (wa.drewN nq).heap.size = wa.heap.size := rfl
            generalize wa.drewN nq = we at hown3 hbr3 hz3 ⊢
            clear hownA hbrA hbw hk1 hv1 hpk hpv
            have hbw : Below w.heap.size w we := hB0.trans (hbr3.mono (by omega))
            have hk1 : we.cell? ⟨w.heap.size, 0, none⟩ = some (.string KT) := (hbr3.cell (p := ⟨w.heap.size, 0, none⟩) (by show w.heap.size < w.heap.size + 1; omega)).trans hk0
            have hv1 : we.cell? ⟨w.heap.size, 1, none⟩ = some (.string VT) := (hbr3.cell (p := ⟨w.heap.size, 1, none⟩) (by show w.heap.size < w.heap.size + 1; omega)).trans hv0
            have hpk : we.cell? ⟨g, i * 2, none⟩ = some (.string (textQ p.1)) := (hbw.cell (p := ⟨g, i * 2, none⟩) hg).trans hk
            have hpv : we.cell? ⟨g, i * 2 + 1, none⟩ = some (.string (textQ p.2)) := (hbw.cell (p := ⟨g, i * 2 + 1, none⟩) hg).trans hv
            go_wp2
            go_roundw
            case rel => exact ⟨i + 1, false, li ++ [(K, V)], by omega, by go_num, rfl, by simp; omega, Hf, hown3, hbr3⟩
            case measure => simp [intOf]; omega
          · rw [if_neg he, ← List.append_assoc, ← List.append_assoc] at hf2
            rw [show (p.1 == K) = false by simp [he]] at hbe2
            have Hf := Lib.hid hf2
            clear hf2 he hbe hbl ha
            go_wp2_with fail
            go_quiet (fail)
            have hown2 := ownsRow_below4 hown (below_drewN (Below.refl _ wr) nq)
            have hbr2 := below_drewN hbr nq
            have hz2 : (wr.drewN nq).heap.size = wr.heap.size := rfl
            generalize wr.drewN nq = wd at hown2 hbr2 hz2 ⊢
            clear hown hbr hbw hk1 hv1 hpk hpv
            have hbw : Below w.heap.size w wd := hB0.trans (hbr2.mono (by omega))
            have hk1 : wd.cell? ⟨w.heap.size, 0, none⟩ = some (.string KT) := (hbr2.cell (p := ⟨w.heap.size, 0, none⟩) (by show w.heap.size < w.heap.size + 1; omega)).trans hk0
            have hv1 : wd.cell? ⟨w.heap.size, 1, none⟩ = some (.string VT) := (hbr2.cell (p := ⟨w.heap.size, 1, none⟩) (by show w.heap.size < w.heap.size + 1; omega)).trans hv0
            have hpk : wd.cell? ⟨g, i * 2, none⟩ = some (.string (textQ p.1)) := (hbw.cell (p := ⟨g, i * 2, none⟩) hg).trans hk
            have hpv : wd.cell? ⟨g, i * 2 + 1, none⟩ = some (.string (textQ p.2)) := (hbw.cell (p := ⟨g, i * 2 + 1, none⟩) hg).trans hv
            have happ := hown2.alloc (.cells #[.string KT, .string VT] 111)
            go_wp2_with (at_builtin; refine wpList_append_pair rfl _ _ rfl (w.heap.size + 1) u5 li (K, V) rfl happ (by simp; omega) (by (try simp); omega) wr.heap.size 1 rfl ?n2 ?m2 ?_)
            case n2 => exact HK.out.symm
            case m2 => exact HV.out.symm
            intro vwa wa hownA hgrow
            have hbrA : Below (w.heap.size + 1) w1 wa := ((hbr2).alloc (by omega) _).grown hgrow (by simp; omega) fun k hk => (row_block happ hk).1
            clear happ hgrow hown2 hbr2 hbw hk1 hv1 hpk hpv
            have hza := hbrA.size
            have hbw : Below w.heap.size w wa := hB0.trans (hbrA.mono (by omega))
            have hk1 : wa.cell? ⟨w.heap.size, 0, none⟩ = some (.string KT) := (hbrA.cell (p := ⟨w.heap.size, 0, none⟩) (by show w.heap.size < w.heap.size + 1; omega)).trans hk0
            have hv1 : wa.cell? ⟨w.heap.size, 1, none⟩ = some (.string VT) := (hbrA.cell (p := ⟨w.heap.size, 1, none⟩) (by show w.heap.size < w.heap.size + 1; omega)).trans hv0
            have hpk : wa.cell? ⟨g, i * 2, none⟩ = some (.string (textQ p.1)) := (hbw.cell (p := ⟨g, i * 2, none⟩) hg).trans hk
            have hpv : wa.cell? ⟨g, i * 2 + 1, none⟩ = some (.string (textQ p.2)) := (hbw.cell (p := ⟨g, i * 2 + 1, none⟩) hg).trans hv
            go_wp2_with fail
            go_quiet (fail)
            have hown3 := ownsRow_below4 hownA (below_drewN (Below.refl _ wa) nq)
            have hbr3 := below_drewN hbrA nq
            have hz3 : (wa.drewN nq).heap.size = wa.heap.size := rfl
            generalize wa.drewN nq = we at hown3 hbr3 hz3 ⊢
            clear hownA hbrA hbw hk1 hv1 hpk hpv
            have hbw : Below w.heap.size w we := hB0.trans (hbr3.mono (by omega))
            have hk1 : we.cell? ⟨w.heap.size, 0, none⟩ = some (.string KT) := (hbr3.cell (p := ⟨w.heap.size, 0, none⟩) (by show w.heap.size < w.heap.size + 1; omega)).trans hk0
            have hv1 : we.cell? ⟨w.heap.size, 1, none⟩ = some (.string VT) := (hbr3.cell (p := ⟨w.heap.size, 1, none⟩) (by show w.heap.size < w.heap.size + 1; omega)).trans hv0
            have hpk : we.cell? ⟨g, i * 2, none⟩ = some (.string (textQ p.1)) := (hbw.cell (p := ⟨g, i * 2, none⟩) hg).trans hk
            have hpv : we.cell? ⟨g, i * 2 + 1, none⟩ = some (.string (textQ p.2)) := (hbw.cell (p := ⟨g, i * 2 + 1, none⟩) hg).trans hv
            have happ := hown3.alloc (.cells #[.string (textQ p.1), .string (textQ p.2)] 111)
            go_wp2_with (at_builtin; refine wpList_append_pair rfl _ _ rfl (w.heap.size + 1) vwa (li ++ [(K, V)]) p rfl happ (by simp; omega) (by (try simp); omega) wa.heap.size 1 rfl ?n3 ?m3 ?_)
            case n3 => (rw [← hz3]; go_simp)
            case m3 => (rw [← hz3]; go_simp)
            intro vwf wf hown4 hgrow
            have hbr4 : Below (w.heap.size + 1) w1 wf := ((hbr3).alloc (by omega) _).grown hgrow (by simp; omega) fun k hk => (row_block happ hk).1
            clear happ hgrow hown3 hbr3 hbw hk1 hv1 hpk hpv
            go_wp2
            go_roundw
            case rel => exact ⟨i + 1, false, li ++ [(K, V), p], by omega, by go_num, rfl, by simp; omega, Lib.hid (by rw [Hf.out]; simp), hown4, hbr4⟩
            case measure => simp [intOf]; omega
        · have hab : (Op.bytesLess KT.toList (textQ p.1).toList || (KT.toList == (textQ p.1).toList)) = false := by rw [hbl, hbe]; simpa using ha
          have haf : (lessP K p.1 || K == p.1) = false := by simpa using ha
          have he : p.1 ≠ K := fun e => by rw [e] at haf; simp at haf
          rw [haf, Bool.true_and, if_neg Bool.false_ne_true, List.nil_append, if_neg he, Bool.not_false, Bool.true_and, ← List.append_assoc] at hf2
          rw [show (p.1 == K) = false by simp [he]] at hbe2
          have Hf := Lib.hid hf2
          clear hf2 he hbe hbl ha haf
          go_wp2_with fail
          go_quiet (fail)
          have hown2 := ownsRow_below4 hown (below_drewN (Below.refl _ wr) nq)
          have hbr2 := below_drewN hbr nq
          have hz2 : (wr.drewN nq).heap.size = wr.heap.size := rfl
          generalize wr.drewN nq = wd at hown2 hbr2 hz2 ⊢
          clear hown hbr hbw hk1 hv1 hpk hpv
          have hbw : Below w.heap.size w wd := hB0.trans (hbr2.mono (by omega))
          have hk1 : wd.cell? ⟨w.heap.size, 0, none⟩ = some (.string KT) := (hbr2.cell (p := ⟨w.heap.size, 0, none⟩) (by show w.heap.size < w.heap.size + 1; omega)).trans hk0
          have hv1 : wd.cell? ⟨w.heap.size, 1, none⟩ = some (.string VT) := (hbr2.cell (p := ⟨w.heap.size, 1, none⟩) (by show w.heap.size < w.heap.size + 1; omega)).trans hv0
          have hpk : wd.cell? ⟨g, i * 2, none⟩ = some (.string (textQ p.1)) := (hbw.cell (p := ⟨g, i * 2, none⟩) hg).trans hk
          have hpv : wd.cell? ⟨g, i * 2 + 1, none⟩ = some (.string (textQ p.2)) := (hbw.cell (p := ⟨g, i * 2 + 1, none⟩) hg).trans hv
          go_wp2_with fail
          go_quiet (fail)
          have hown3 := ownsRow_below4 hown2 (below_drewN (Below.refl _ wd) nq)
          have hbr3 := below_drewN hbr2 nq
          have hz3 : (wd.drewN nq).heap.size = wd.heap.size := rfl
          generalize wd.drewN nq = we at hown3 hbr3 hz3 ⊢
          clear hown2 hbr2 hbw hk1 hv1 hpk hpv
          have hbw : Below w.heap.size w we := hB0.trans (hbr3.mono (by omega))
          have hk1 : we.cell? ⟨w.heap.size, 0, none⟩ = some (.string KT) := (hbr3.cell (p := ⟨w.heap.size, 0, none⟩) (by show w.heap.size < w.heap.size + 1; omega)).trans hk0
          have hv1 : we.cell? ⟨w.heap.size, 1, none⟩ = some (.string VT) := (hbr3.cell (p := ⟨w.heap.size, 1, none⟩) (by show w.heap.size < w.heap.size + 1; omega)).trans hv0
          have hpk : we.cell? ⟨g, i * 2, none⟩ = some (.string (textQ p.1)) := (hbw.cell (p := ⟨g, i * 2, none⟩) hg).trans hk
          have hpv : we.cell? ⟨g, i * 2 + 1, none⟩ = some (.string (textQ p.2)) := (hbw.cell (p := ⟨g, i * 2 + 1, none⟩) hg).trans hv
          have happ := hown3.alloc (.cells #[.string (textQ p.1), .string (textQ p.2)] 111)
          go_wp2_with (at_builtin; refine wpList_append_pair rfl _ _ rfl (w.heap.size + 1) u5 li p rfl happ (by simp; omega) (by (try simp); omega) wr.heap.size 1 rfl ?n4 ?m4 ?_)
          case n4 => (rw [← hz2, ← hz3]; go_simp)
          case m4 => (rw [← hz2, ← hz3]; go_simp)
          intro vwf wf hown4 hgrow
          have hbr4 : Below (w.heap.size + 1) w1 wf := ((hbr3).alloc (by omega) _).grown hgrow (by simp; omega) fun k hk => (row_block happ hk).1
          clear happ hgrow hown3 hbr3 hbw hk1 hv1 hpk hpv
          go_wp2
          go_roundw
          case rel => exact ⟨i + 1, true, li ++ [p], by omega, by go_num, rfl, by simp; omega, Hf, hown4, hbr4⟩
          case measure => simp [intOf]; omega
    · obtain rfl : i = n := by omega
      have hf2 := hf.out
      rw [List.drop_of_length_le (by rw [Hn.out]; exact Nat.le_refl _), doneP] at hf2
      clear hf
      cases td with
      | false =>
        rw [if_neg Bool.false_ne_true, List.append_nil] at hf2
        have Hf := Lib.hid hf2
        clear hf2
        go_wp2
        go_ret
        exact ⟨_, rfl, by rw [Hf.out]; exact row_more hown (by omega), hbw⟩
      | true =>
        rw [if_pos rfl] at hf2
        have Hf := Lib.hid hf2
        clear hf2
        have happ := hown.alloc (.cells #[.string KT, .string VT] 111)
        go_wp2_with (at_builtin; refine wpList_append_pair rfl _ _ rfl (w.heap.size + 1) u5 li (K, V) rfl happ (by simp; omega) (by (try simp); omega) wr.heap.size 1 rfl ?n5 ?m5 ?_)
        case n5 => exact HK.out.symm
        case m5 => exact HV.out.symm
        intro vwf wf hown4 hgrow
        have hbr4 : Below (w.heap.size + 1) w1 wf := ((hbr).alloc (by omega) _).grown hgrow (by simp; omega) fun k hk => (row_block happ hk).1
        clear happ hgrow hown hbr hbw hk1 hv1
        go_wp2
        go_ret
        exact ⟨_, rfl, by rw [Hf.out]; exact row_more hown4 (by omega), hB0.trans (hbr4.mono (by omega))⟩
end Go.Proofs.YtcjmpkfcjcoobaaGreat
