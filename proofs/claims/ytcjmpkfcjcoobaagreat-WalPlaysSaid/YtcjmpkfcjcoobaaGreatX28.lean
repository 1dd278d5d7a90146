/-
  Texts of this proof, put together: R8C, R8T, R8S.
-/
import Derived.Test.YtcjmpkfcjcoobaaGreatX27
import Derived.Test.YtcjmpkfcjcoobaaGreatX26
import Derived.Test.YtcjmpkfcjcoobaaGreatX24
import Derived.Test.YtcjmpkfcjcoobaaGreatX04
import Derived.Deep.QuietTactic
import Derived.BigQuiet
namespace Go.Proofs.YtcjmpkfcjcoobaaGreat
open Go.RowKit

theorem done_len (c : Ch) : ∀ (t : Bool) (l : List PairP), (doneP c t l).length ≤ l.length + (if t = true then 1 else 0)
  | t, [] => by
    unfold doneP
    cases t <;> simp
  | t, p :: l => by
    have ih := done_len c (t && !(lessP c.key p.1 || c.key == p.1)) l
    unfold doneP
    obtain ⟨r, hr⟩ : ∃ r, doneP c (t && !(lessP c.key p.1 || c.key == p.1)) l = r := ⟨_, rfl⟩
    rw [hr] at ih ⊢
    have hmid : ((if p.1 = c.key then [] else [p]) ++ r).length ≤ 1 + r.length := by
      split
      · exact Nat.le_add_left ..
      · exact Nat.le_of_eq (by simp; omega)
    cases t
    · simp only [Bool.false_and, if_neg Bool.false_ne_true, List.nil_append] at ih ⊢
      simp only [List.length_cons] at ih ⊢
      omega
    · simp only [Bool.true_and, if_true] at ih ⊢
      cases hx : (lessP c.key p.1 || c.key == p.1)
      · rw [hx] at ih
        simp only [Bool.not_false, if_true] at ih
        rw [if_neg Bool.false_ne_true, List.nil_append, List.length_cons]
        omega
      · rw [hx] at ih
        simp only [Bool.not_true, if_neg Bool.false_ne_true] at ih
        rw [if_pos rfl, List.length_append, List.length_cons, List.length_cons, List.length_nil]
        omega
theorem behind_len : ∀ (l : List Ch) (ps : List PairP), (behindP ps l).length ≤ ps.length + l.length
  | [], _ => Nat.le_refl _
  | c :: l, ps => by
    have h1 := behind_len l (doneP c (!c.gone) ps)
    have h2 := done_len c (!c.gone) ps
    have h3 : (if (!c.gone) = true then 1 else 0) ≤ 1 := by split <;> omega
    rw [behind_cons, List.length_cons]
    omega
/-- Behind one change more. -/
theorem behind_take (ps : List PairP) (l : List Ch) (i : Nat) (h : i < l.length) : behindP ps (l.take (i + 1)) = doneP l[i] (!l[i].gone) (behindP ps (l.take i)) := by
  rw [List.take_succ_eq_append_getElem h, behind_append]
  rfl
theorem print_fits (l : List Ch) : printV l = if (∀ c ∈ l, c.key.length ≤ 65535 ∧ c.val.length ≤ 65535) then .tuple #[.string (textQ (printL l)), .int .i64 0] else .tuple #[.string ⟨#[]⟩, .int .i64 3] := by
  unfold printV
  by_cases h : ∀ c ∈ l, c.key.length ≤ 65535 ∧ c.val.length ≤ 65535
  · rw [if_pos h, if_pos]
    rw [List.all_eq_true]
    intro c hc
    simp only [Bool.and_eq_true, decide_eq_true_eq]
    exact h c hc
  · rw [if_neg h, if_neg]
    intro hall
    refine h fun c hc => ?_
    have := List.all_eq_true.1 hall c hc
    simp only [Bool.and_eq_true, decide_eq_true_eq] at this
    exact this

/-- Three cells of one block are set. -/
def set3 (w : World) (b : Nat) (v0 v1 v2 : Value) : World := ((w.setCell ⟨b, 0, none⟩ v0).setCell ⟨b, 1, none⟩ v1).setCell ⟨b, 2, none⟩ v2
theorem turned_three {w : World} {b : Nat} {v0 v1 v2 : Value} {S : Nat → Prop} (hS : S b) : Turned S w (set3 w b v0 v1 v2) :=
  ((Turned.set (S := S) (j := 0) (N := b) (v := v0) hS).trans (Turned.set (S := S) (j := 1) (N := b) (v := v1) hS) (fun _ h => .inl h)).trans (Turned.set (S := S) (j := 2) (N := b) (v := v2) hS) (fun _ h => .inl h)
theorem heap_three {w : World} {b : Nat} {v0 v1 v2 u0 u1 u2 : Value} {t : TypeId} (h : w.heap[b]? = some (.cells #[u0, u1, u2] t (0, 0))) : (set3 w b v0 v1 v2).heap[b]? = some (.cells #[v0, v1, v2] t (0, 0)) := by
  unfold set3
  exact set_block (set_block (set_block h))
theorem below_three {w0 w : World} {B b : Nat} {v0 v1 v2 : Value} (h : Below B w0 w) (hb : B ≤ b) (hB : B ≤ w.heap.size) : Below B w0 (set3 w b v0 v1 v2) :=
  h.trans ((turned_three (S := fun k => k = b) rfl).below hB (fun k e => by omega))
theorem cells_three {w : World} {b : Nat} {v0 v1 v2 : Value} {t : TypeId} (h : w.heap[b]? = some (.cells #[v0, v1, v2] t (0, 0))) :
    w.cell? ⟨b, 0, none⟩ = some v0 ∧ w.cell? ⟨b, 1, none⟩ = some v1 ∧ w.cell? ⟨b, 2, none⟩ = some v2 ∧ ∀ j, w.frozen? ⟨b, j, none⟩ = false := by
  refine ⟨?_, ?_, ?_, fun j => Lib.frozen_of_heap h j⟩ <;> rw [Lib.cell_of_heap h] <;> rfl

set_option maxRecDepth 100000 in
set_option maxHeartbeats 4000000 in
/-- A commit whose changes have no text. -/
theorem rcommit_long (B C : Nat) (vL v : Value) (ps : List PairP) (l : List Ch) (half used : Nat) (w : World) (hp : PairsAt w B vL ps) (hc : ChsAt w C v l) (hC : C ≤ w.heap.size) (hlen : l.length ≤ 100000)
    (hfit : ¬ ∀ c ∈ l, c.key.length ≤ 65535 ∧ c.val.length ≤ 65535) :
    Calls Tryz.prog 18 #[storeV vL half used, v] w fun e w' => e = .returned (.tuple #[storeV vL half used, .int .i64 3]) ∧ Below w.heap.size w w' := by
  obtain ⟨ao, cap, rfl, _⟩ := hp.slice
  have hpr := fun (W : World) (hW : Below w.heap.size w W) => rprint_any C v l W (hc.below hW hC) (Nat.le_trans hC hW.size) hlen
  simp only [print_fits, if_neg hfit] at hpr
  unfold storeV
  obtain ⟨np, hnp⟩ : ∃ np, ps.length = np := ⟨_, rfl⟩
  have Hpr := Lib.hid hpr
  clear hpr hp hc hfit
  rw [hnp]
  clear hnp
  go_enter Tryz.func18, Tryz.ntmps18
  go_wp2_with fail
  have hb0 : Below w.heap.size w ((w.alloc (.cells #[.slice ao np cap, .int .i64 (half : Int), .int .i64 (used : Int)] 49)).alloc (.cells #[.slice none 0 0, .int .i64 0, .int .i64 0] 49)) := ((Below.refl _ w).alloc (Nat.le_refl _) _).alloc (by simp) _
  have hs0 : ((w.alloc (.cells #[.slice ao np cap, .int .i64 (half : Int), .int .i64 (used : Int)] 49)).alloc (.cells #[.slice none 0 0, .int .i64 0, .int .i64 0] 49)).heap[w.heap.size]? = some (.cells #[.slice ao np cap, .int .i64 (half : Int), .int .i64 (used : Int)] 49 (0, 0)) := by
    rw [heap_alloc_old _ _ (by simp)]
    exact heap_alloc_new w _
  have hr0 : ((w.alloc (.cells #[.slice ao np cap, .int .i64 (half : Int), .int .i64 (used : Int)] 49)).alloc (.cells #[.slice none 0 0, .int .i64 0, .int .i64 0] 49)).heap[w.heap.size + 1]? = some (.cells #[.slice none 0 0, .int .i64 0, .int .i64 0] 49 (0, 0)) := by
    have := heap_alloc_new (w.alloc (.cells #[.slice ao np cap, .int .i64 (half : Int), .int .i64 (used : Int)] 49)) (.cells #[.slice none 0 0, .int .i64 0, .int .i64 0] 49)
    simpa using this
  have hz0 : ((w.alloc (.cells #[.slice ao np cap, .int .i64 (half : Int), .int .i64 (used : Int)] 49)).alloc (.cells #[.slice none 0 0, .int .i64 0, .int .i64 0] 49)).heap.size = w.heap.size + 2 := by simp
  generalize ((w.alloc (.cells #[.slice ao np cap, .int .i64 (half : Int), .int .i64 (used : Int)] 49)).alloc (.cells #[.slice none 0 0, .int .i64 0, .int .i64 0] 49)) = w0 at hb0 hs0 hr0 hz0 ⊢
  refine (Hpr.out _ hb0).mono ?_
  rintro e w1 ⟨rfl, hw1⟩
  have hb1 := hb0.trans (hw1.mono hb0.size)
  have hz1 := hw1.size
  have hs1 := (hw1.block w.heap.size (by omega)).trans hs0
  have hr1 := (hw1.block (w.heap.size + 1) (by omega)).trans hr0
  have c0 : w1.cell? ⟨w.heap.size, 0, none⟩ = some (.slice ao np cap) := by rw [Lib.cell_of_heap hs1]; rfl
  have c1 : w1.cell? ⟨w.heap.size, 1, none⟩ = some (.int .i64 (half : Int)) := by rw [Lib.cell_of_heap hs1]; rfl
  have c2 : w1.cell? ⟨w.heap.size, 2, none⟩ = some (.int .i64 (used : Int)) := by rw [Lib.cell_of_heap hs1]; rfl
  have d0 : w1.cell? ⟨w.heap.size + 1, 0, none⟩ = some (.slice none 0 0) := by rw [Lib.cell_of_heap hr1]; rfl
  have d1 : w1.cell? ⟨w.heap.size + 1, 1, none⟩ = some (.int .i64 0) := by rw [Lib.cell_of_heap hr1]; rfl
  have d2 : w1.cell? ⟨w.heap.size + 1, 2, none⟩ = some (.int .i64 0) := by rw [Lib.cell_of_heap hr1]; rfl
  have dz : ∀ j, w1.frozen? ⟨w.heap.size + 1, j, none⟩ = false := fun j => Lib.frozen_of_heap hr1 j
  clear hs0 hr0 hw1 hb0 hs1
  have hh := heap_three (v0 := .slice ao np cap) (v1 := .int .i64 (half : Int)) (v2 := .int .i64 (used : Int)) hr1
  have hbl := below_three (b := w.heap.size + 1) (v0 := .slice ao np cap) (v1 := .int .i64 (half : Int)) (v2 := .int .i64 (used : Int)) hb1 (by omega) (by omega)
  obtain ⟨y0, y1, y2, _⟩ := cells_three hh
  unfold set3 at hbl y0 y1 y2
  have Hbl := Lib.hid hbl
  clear hh hbl hr1
  go_wp2
  exact bodyPost_ret (by simp [results, Tryz.results18, go_sem, y0, y1, y2]) rfl ⟨rfl, Hbl.out⟩
end Go.Proofs.YtcjmpkfcjcoobaaGreat
namespace Go.Proofs.YtcjmpkfcjcoobaaGreat
open Go.RowKit

theorem bytes_beq (x y : ByteArray) : (x.toList == y.toList) = decide (x = y) := by
  rw [Lib.toList_data, Lib.toList_data]
  by_cases h : x = y
  · rw [h, decide_eq_true rfl]
    simp
  · rw [decide_eq_false h, beq_eq_false_iff_ne]
    exact fun e => h (ByteArray.ext (Array.toList_inj.1 e))
set_option maxRecDepth 100000 in
set_option maxHeartbeats 2000000 in
theorem rtexts_any (B : Nat) (A A' : Option Addr) (n n' c c' : Nat) (ss ss' : List ByteArray) (w : World) (h : Strs w B A n c ss) (h' : Strs w B A' n' c' ss') (hn : n ≤ 1000000) (hn' : n' ≤ 1000000) (hB : B ≤ w.heap.size) :
    Calls Tryz.prog 22 #[.slice A n c, .slice A' n' c'] w fun e w' => e = .returned (.bool (decide (ss = ss'))) ∧ Below w.heap.size w w' := by
  have hl := h.len
  have hl' := h'.len
  by_cases hne : n = n'
  · subst hne
    have H1 := Lib.hid h
    have H2 := Lib.hid h'
    clear h h'
    have Hl := Lib.hid hl
    have Hl' := Lib.hid hl'
    clear hl hl'
    go_enter Tryz.func22, Tryz.ntmps22
    go_wp2
    go_loopw [5] (fun iv wr => ∃ i : Nat, i ≤ n ∧ iv = .int .i64 i ∧ Hid (ss.take i = ss'.take i) ∧ Below w.heap.size w wr) (fun iv _ => n - (intOf iv).toNat)
    case atStart => exact ⟨0, by omega, rfl, Lib.hid rfl, Below.refl _ _⟩
    case round =>
      obtain ⟨i, hi, rfl, hf, hbr⟩ := hrel
      by_cases hlt : i < n
      · obtain ⟨b, off, rfl, hb, hc⟩ := H1.out.at_ hlt
        obtain ⟨b', off', rfl, hb', hc'⟩ := H2.out.at_ hlt
        have k1 : ss.getD i ByteArray.empty = ss[i]'(by rw [Hl.out]; exact hlt) := by simp [List.getD, List.getElem?_eq_getElem (show i < ss.length by rw [Hl.out]; exact hlt)]
        have k2 : ss'.getD i ByteArray.empty = ss'[i]'(by rw [Hl'.out]; exact hlt) := by simp [List.getD, List.getElem?_eq_getElem (show i < ss'.length by rw [Hl'.out]; exact hlt)]
        have q1 := (hbr.cell (p := ⟨b, off + i, none⟩) (by show b < w.heap.size; omega)).trans (hc i hlt)
        have q2 := (hbr.cell (p := ⟨b', off' + i, none⟩) (by show b' < w.heap.size; omega)).trans (hc' i hlt)
        have t1 : ss.take (i + 1) = ss.take i ++ [ss.getD i ByteArray.empty] := by rw [k1, List.take_succ_eq_append_getElem]
        have t2 : ss'.take (i + 1) = ss'.take i ++ [ss'.getD i ByteArray.empty] := by rw [k2, List.take_succ_eq_append_getElem]
        obtain ⟨X, hX⟩ : ∃ X, ss.getD i ByteArray.empty = X := ⟨_, rfl⟩
        obtain ⟨Y, hY⟩ : ∃ Y, ss'.getD i ByteArray.empty = Y := ⟨_, rfl⟩
        rw [hX] at q1 t1
        rw [hY] at q2 t2
        have hbe := bytes_beq X Y
        have hl1 : b < wr.heap.size := by have := hbr.size; omega
        have hl2 : b' < wr.heap.size := by have := hbr.size; omega
        clear hc hc' k1 k2 hX hY
        by_cases he : X = Y
        · rw [decide_eq_true he] at hbe
          have Hn : Hid (ss.take (i + 1) = ss'.take (i + 1)) := Lib.hid (by rw [t1, t2, hf.out, he])
          clear t1 t2 he hf
          go_wp2_with fail
          go_quiet (fail)
          have hb2 := below_drewN hbr nq
          go_wp2
          go_roundw
          case rel => exact ⟨i + 1, by omega, by go_num, Hn, hb2⟩
          case measure => simp [intOf]; omega
        · rw [decide_eq_false he] at hbe
          have hns : decide (ss = ss') = false := decide_eq_false (fun e => by
            rw [e, t2] at t1
            exact he (List.singleton_inj.1 (List.append_cancel_left (t1.symm.trans (by rw [← hf.out])))))
          have Hns := Lib.hid hns
          clear t1 t2 he hf hns
          go_wp2_with fail
          go_quiet (fail)
          have hb2 := below_drewN hbr nq
          go_wp2
          go_ret
          exact ⟨by rw [Hns.out]; rfl, hb2⟩
      · obtain rfl : i = n := by omega
        have hf2 := hf.out
        rw [List.take_of_length_le (by rw [Hl.out]; exact Nat.le_refl _), List.take_of_length_le (by rw [Hl'.out]; exact Nat.le_refl _)] at hf2
        have Hf : Hid (decide (ss = ss') = true) := Lib.hid (decide_eq_true hf2)
        clear hf hf2
        go_wp2
        go_ret
        exact ⟨by rw [Hf.out]; rfl, hbr⟩
  · have hns : decide (ss = ss') = false := decide_eq_false (fun e => hne (by rw [← hl, ← hl', e]))
    have Hns := Lib.hid hns
    have hne2 : ((n : Int) == (n' : Int)) = false := by
      rw [beq_eq_false_iff_ne]
      omega
    clear h h' hl hl' hns
    go_enter Tryz.func22, Tryz.ntmps22
    go_wp2
    go_ret
    exact ⟨by rw [Hns.out]; rfl, Below.refl _ _⟩
end Go.Proofs.YtcjmpkfcjcoobaaGreat
namespace Go.Proofs.YtcjmpkfcjcoobaaGreat
open Go.RowKit

theorem head_short {s : List UInt8} (h : s.length < 5) : headL s = none := by
  match s, h with
  | [], _ => rfl
  | [_], _ => rfl
  | [_, _], _ => rfl
  | [_, _, _], _ => rfl
  | [_, _, _, _], _ => rfl
theorem head_five (g k1 k2 v1 v2 : UInt8) (r : List UInt8) : headL (g :: k1 :: k2 :: v1 :: v2 :: r) = if 1 < g.toNat ∨ r.length < val2 k1 k2 + val2 v1 v2 ∨ (g = 1 ∧ 0 < val2 v1 v2) then none
    else some (⟨r.take (val2 k1 k2), (r.drop (val2 k1 k2)).take (val2 v1 v2), g == 1⟩, r.drop (val2 k1 k2 + val2 v1 v2)) := rfl
theorem wrap_small {x : Int} (h0 : 0 ≤ x) (h1 : x < 1000000000) : IntKind.i64.wrap x = x := by
  have h := IntWalk.wrap64_in x (by omega)
  unfold wrap64 at h
  rw [IntKind.wrap_i64]
  exact h
theorem drop_five (S : ByteArray) (at_ : Nat) (h : at_ + 5 ≤ S.size) : S.data.toList.drop at_ = S[at_] :: S[at_ + 1] :: S[at_ + 2] :: S[at_ + 3] :: S[at_ + 4] :: S.data.toList.drop (at_ + 5) := by
  have hl : S.data.toList.length = S.size := rfl
  rw [List.drop_eq_getElem_cons (by omega), List.drop_eq_getElem_cons (by omega), List.drop_eq_getElem_cons (by omega), List.drop_eq_getElem_cons (by omega), List.drop_eq_getElem_cons (by omega)]
  rfl
theorem parse_step {f : Nat} {s r : List UInt8} {c : Ch} (hs : s.length ≤ f) (h : headL s = some (c, r)) : parseL f s = (parseL f r).map (c :: ·) := by
  have hr := head_less h
  match s, f with
  | [], _ => cases h
  | b :: s, 0 => simp at hs
  | b :: s, f + 1 =>
    rw [parseL, h]
    show (parseL f r).map _ = _
    simp only [List.length_cons] at hs hr
    rw [parse_fuel f (f + 1) r (by omega) (by omega)]
theorem parse_stop {f : Nat} {b : UInt8} {s : List UInt8} (h : headL (b :: s) = none) : parseL f (b :: s) = none := by
  match f with
  | 0 => rfl
  | f + 1 => rw [parseL, h]
end Go.Proofs.YtcjmpkfcjcoobaaGreat
