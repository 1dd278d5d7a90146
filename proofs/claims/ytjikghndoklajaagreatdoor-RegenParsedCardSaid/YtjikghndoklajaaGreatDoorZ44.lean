/-
  Texts of this proof, put together: RgE, RgI, RgJ, RgF.
-/
import Derived.Test.YtjikghndoklajaaGreatDoorZ41
import Derived.Test.YtjikghndoklajaaGreatDoorZ43
import Derived.Test.YtjikghndoklajaaGreatDoorZ17
import Derived.Test.YtjikghndoklajaaGreatDoorZ42
import Derived.Deep.RegionHeld3
import Derived.Test.YtjikghndoklajaaGreatDoorZ07
namespace Go.Proofs.YtjikghndoklajaaGreatDoor
open Go.RowKit

set_option maxRecDepth 100000 in
set_option maxHeartbeats 4000000 in
theorem gidxp_none (g : Nat) (lb : Array Value) (eg : ∀ args w, (callFunc g args).run Tryz.prog w = .ok (.enter g args) w) (B : Nat) (v : Value) (l : List TreeM) (w : World) (h : PartsAt w B v l) (hB : B ≤ w.heap.size)
    (hcall : ∀ W i (hi : i < l.length) fv pv rv, Below w.heap.size w W → TreeAt W B l[i] fv pv rv → Calls Tryz.prog g (#[partV l[i] fv pv rv] ++ lb) W fun e w' => e = .returned (.bool false) ∧ Below W.heap.size W w') :
    Calls Tryz.prog 45 #[v, .func (.func g) #[] lb] w fun e w' => e = .returned (.int .i64 (-1)) ∧ Below w.heap.size w w' := by
  obtain ⟨ao, cap, rfl, hc1, hc2⟩ := h.slice
  have Hc := Lib.hid h
  have Hcall := Lib.hid hcall
  obtain ⟨n, hnl⟩ : ∃ n, l.length = n := ⟨_, rfl⟩
  have Hn := Lib.hid hnl
  unfold maxLen at hc2
  rw [hnl] at hc1 Hc ⊢
  clear h hcall hnl
  go_enter Tryz.func45, Tryz.ntmps45
  go_wp2
  go_loopw [8] (fun iv wr => ∃ i : Nat, i ≤ n ∧ iv = .int .i64 i ∧ Below w.heap.size w wr) (fun iv _ => n - (intOf iv).toNat)
  case atStart => exact ⟨0, by omega, rfl, Below.refl _ _⟩
  case round =>
    obtain ⟨i, hi, rfl, hbr⟩ := hrel
    by_cases hlt : i < n
    · have hil : i < l.length := by rw [Hn.out]; exact hlt
      obtain ⟨gb, off, fv, pv, rv, rfl, hgB, x0, x1, x2, x3, x4, x5, hkid⟩ := Hc.out.cells i hil
      have hcl := Hcall.out wr i hil fv pv rv hbr (hkid.below hbr hB)
      have y : ∀ j u, w.cell? ⟨gb, j, none⟩ = some u → wr.cell? ⟨gb, j, none⟩ = some u := fun j u hu => (hbr.cell (p := ⟨gb, j, none⟩) (by show gb < w.heap.size; have : gb < B := hgB; omega)).trans hu
      have y0 := y _ _ x0
      have y1 := y _ _ x1
      have y2 := y _ _ x2
      have y3 := y _ _ x3
      have y4 := y _ _ x4
      have y5 := y _ _ x5
      unfold partV at hcl
      obtain ⟨q, hq⟩ : ∃ q, l[i] = q := ⟨_, rfl⟩
      rw [hq] at hcl y1 y2 y4
      obtain ⟨X, hX⟩ : ∃ X, textQ q.typ.1 = X := ⟨_, rfl⟩
      obtain ⟨Y, hY⟩ : ∃ X, textQ q.typ.2.1 = X := ⟨_, rfl⟩
      obtain ⟨D, hD⟩ : ∃ X, textQ q.body = X := ⟨_, rfl⟩
      rw [hX, hY, hD] at hcl
      rw [hX] at y1
      rw [hY] at y2
      rw [hD] at y4
      have hbz := hbr.size
      clear x0 x1 x2 x3 x4 x5 hkid y hX hY hD hq hil
      go_wp2_with fail
      refine hcl.mono ?_
      rintro e w1 ⟨rfl, hw1⟩
      have hb1 := hbr.trans (hw1.mono hbz)
      clear hw1 hcl
      go_wp2
      go_roundw
      case rel => exact ⟨i + 1, by omega, by go_num, hb1⟩
      case measure => simp [intOf]; omega
    · obtain rfl : i = n := by omega
      go_wp2
      go_ret
      exact ⟨rfl, hbr⟩
set_option maxRecDepth 100000 in
theorem gconp_none (g : Nat) (lb : Array Value) (eg : ∀ args w, (callFunc g args).run Tryz.prog w = .ok (.enter g args) w) (B : Nat) (v : Value) (l : List TreeM) (w : World) (h : PartsAt w B v l) (hB : B ≤ w.heap.size)
    (hcall : ∀ W i (hi : i < l.length) fv pv rv, Below w.heap.size w W → TreeAt W B l[i] fv pv rv → Calls Tryz.prog g (#[partV l[i] fv pv rv] ++ lb) W fun e w' => e = .returned (.bool false) ∧ Below W.heap.size W w') :
    Calls Tryz.prog 27 #[v, .func (.func g) #[] lb] w fun e w' => e = .returned (.bool false) ∧ Below w.heap.size w w' := by
  have hi := gidxp_none g lb eg B v l w h hB hcall
  clear h hcall
  go_enter Tryz.func27, Tryz.ntmps27
  go_wp2_with fail
  refine hi.mono ?_
  rintro e w1 ⟨rfl, hw1⟩
  go_wp2
  go_ret
  exact ⟨rfl, hw1⟩
end Go.Proofs.YtjikghndoklajaaGreatDoor
namespace Go.Proofs.YtjikghndoklajaaGreatDoor
open Go.RowKit

theorem put_noneR (b : TextA) : ∀ l : List ParC, idxC l boundM = -1 → putC b l = l ++ [(boundM, b)]
  | [], _ => rfl
  | p :: l, h => by
    unfold idxC at h
    by_cases e : p.1 = boundM
    · rw [if_pos e] at h
      exact absurd h (by decide)
    · rw [if_neg e] at h
      by_cases e2 : idxC l boundM = -1
      · unfold putC
        rw [if_neg e, put_noneR b l e2]
        rfl
      · rw [if_neg e2] at h
        have := idx_cases l boundM
        rcases this with ⟨h1, _⟩ | ⟨i, _, h1, _⟩
        · exact absurd h1 e2
        · rw [h1] at h
          omega
theorem put_someR (b : TextA) : ∀ (l : List ParC) (i : Nat) (h : i < l.length), idxC l boundM = i → putC b l = l.set i (l[i].1, b)
  | p :: l, i, hi, h => by
    unfold idxC at h
    unfold putC
    by_cases e : p.1 = boundM
    · rw [if_pos e] at h
      obtain rfl : i = 0 := by omega
      rw [if_pos e]
      rfl
    · rw [if_neg e] at h ⊢
      by_cases e2 : idxC l boundM = -1
      · rw [if_pos e2] at h
        omega
      · rw [if_neg e2] at h
        match i, hi, h with
        | 0, _, h =>
          rcases idx_cases l boundM with ⟨h1, _⟩ | ⟨k, _, h1, _⟩
          · exact absurd h1 e2
          · rw [h1] at h
            omega
        | i + 1, hi, h =>
          rw [put_someR b l i (by simpa using hi) (by omega)]
          rfl
theorem pars_set (b : TextA) : ∀ (l : List ParC) (i : Nat) (h : i < l.length), (parsCells l).set (i * 2 + 1) (.string (textQ b)) = parsCells (l.set i (l[i].1, b))
  | p :: l, 0, _ => rfl
  | p :: l, i + 1, h => by
    have hi : i < l.length := by simpa using h
    have ih := pars_set b l i hi
    show (parCells p ++ parsCells l).set ((i + 1) * 2 + 1) _ = parCells p ++ parsCells (l.set i (l[i].1, b))
    rw [← ih, List.set_append_right _ _ (by simp [parCells]; omega)]
    congr 2
    simp [parCells]
    omega
set_option maxRecDepth 100000 in
theorem gwithb1_any (n : TextA) (Y : ByteArray) (w : World) : Calls Tryz.prog 82 #[.agg #[.string (textQ n), .string Y]] w fun e w' => e = .returned (.bool (n == boundM)) ∧ Below w.heap.size w w' := by
  have hq : ((textQ n).toList == [98, 111, 117, 110, 100, 97, 114, 121]) = (n == boundM) := by
    rw [Lib.toList_data, show (textQ n).data.toList = n from rfl]
    rfl
  obtain ⟨X, hX⟩ : ∃ X, textQ n = X := ⟨_, rfl⟩
  rw [hX] at hq ⊢
  rw [← hq]
  clear hX hq
  go_enter Tryz.func82, Tryz.ntmps82
  go_wp2
  go_ret
  exact ⟨rfl, (Below.refl _ _).alloc (Nat.le_refl _) _⟩
theorem enter_withb1 : ∀ args w, (callFunc 82 args).run Tryz.prog w = .ok (.enter 82 args) w := enters_of Tryz.func82 (by kernel_rfl) rfl

set_option maxRecDepth 100000 in
set_option maxHeartbeats 4000000 in
theorem gidxb_any (B : Nat) (v : Value) (l : List ParC) (w : World) (h : ParsAt w B v l) (hB : B ≤ w.heap.size) :
    Calls Tryz.prog 81 #[v, .func (.func 82) #[] #[]] w fun e w' => e = .returned (.int .i64 (idxC l boundM)) ∧ Below w.heap.size w w' := by
  obtain ⟨ao, cap, rfl, hc1, hc2, hat⟩ := h
  have Hat := Lib.hid hat
  obtain ⟨k, hkl⟩ : ∃ k, l.length = k := ⟨_, rfl⟩
  have Hk := Lib.hid hkl
  unfold maxLen at hc2
  obtain ⟨R, hR⟩ : ∃ R, idxC l boundM = R := ⟨_, rfl⟩
  rw [hkl] at hc1 ⊢
  rw [hR]
  have HR := Lib.hid hR
  have he := enter_withb1
  clear hat hkl hR
  go_enter Tryz.func81, Tryz.ntmps81
  go_wp2
  go_loopw [8] (fun iv wr => ∃ i : Nat, i ≤ k ∧ iv = .int .i64 i ∧ Hid (∀ j (hj : j < l.length), j < i → l[j].1 ≠ boundM) ∧ Below w.heap.size w wr) (fun iv _ => k - (intOf iv).toNat)
  case atStart => exact ⟨0, by omega, rfl, Lib.hid (fun j _ h => by omega), Below.refl _ _⟩
  case round =>
    obtain ⟨i, hi, rfl, hg, hbr⟩ := hrel
    by_cases hlt : i < k
    · have hil : i < l.length := by rw [Hk.out]; exact hlt
      obtain ⟨g, off, rfl, hgB, z0, z1⟩ := Hat.out i hil
      have hyes : Hid ((l[i].1 == boundM) = true → R = i) := Lib.hid fun h => HR.out.symm.trans (idx_at l boundM i hil (by simpa using h) hg.out)
      have hno : Hid ((l[i].1 == boundM) = false → ∀ j (hj : j < l.length), j < i + 1 → l[j].1 ≠ boundM) := Lib.hid fun h j hj h3 => by
        rcases Nat.lt_or_ge j i with h4 | h4
        · exact hg.out j hj h4
        · obtain rfl : j = i := by omega
          exact beq_eq_false_iff_ne.1 h
      have hcall := gwithb1_any l[i].1 (textQ l[i].2) wr
      obtain ⟨f, hf⟩ : ∃ f, l[i] = f := ⟨_, rfl⟩
      rw [hf] at z0 z1 hyes hno hcall
      obtain ⟨X, hX⟩ : ∃ X, textQ f.1 = X := ⟨_, rfl⟩
      obtain ⟨Y, hY⟩ : ∃ Y, textQ f.2 = Y := ⟨_, rfl⟩
      rw [hX] at z0 hcall
      rw [hY] at z1 hcall
      have y0 := (hbr.cell (p := ⟨g, off + i * 2, none⟩) (by show g < w.heap.size; omega)).trans z0
      have y1 := (hbr.cell (p := ⟨g, off + i * 2 + 1, none⟩) (by show g < w.heap.size; omega)).trans z1
      have hbz := hbr.size
      clear z0 z1 hX hY hg hil hf
      cases hq : (f.1 == boundM) with
      | true =>
        rw [hq] at hcall
        have Hr := Lib.hid (hyes.out hq)
        clear hyes hno hq
        go_wp2_with (go_at_fn 82; refine hcall.mono ?_; rintro e w1 ⟨rfl, hw1⟩)
        have hb1 := hbr.trans (hw1.mono hbz)
        go_ret
        exact ⟨by rw [Hr.out]; rfl, hb1⟩
      | false =>
        rw [hq] at hcall
        have Hr := Lib.hid (hno.out hq)
        clear hyes hno hq
        go_wp2_with (go_at_fn 82; refine hcall.mono ?_; rintro e w1 ⟨rfl, hw1⟩)
        have hb1 := hbr.trans (hw1.mono hbz)
        go_roundw
        case rel => exact ⟨i + 1, by omega, by go_num, Hr, hb1⟩
        case measure => simp [intOf]; omega
    · obtain rfl : i = k := by omega
      have hall : R = -1 := HR.out.symm.trans (idx_noneC l boundM (fun j hj => hg.out j hj (by rw [← Hk.out]; exact hj)))
      have Hall := Lib.hid hall
      clear hall hg
      go_wp2
      go_ret
      exact ⟨by rw [Hall.out]; rfl, hbr⟩

theorem own_value {w : World} {B0 g n cap : Nat} {l : List ParC} {i : Nat} (hi : i < l.length) (b : TextA) (h : w.ownsRow B0 57 2 (.slice (some ⟨g, 0, none⟩) n cap) n (parsCells l)) (hn : l.length = n) :
    ParsOwn (w.setCell ⟨g, i * 2 + 1, none⟩ (.string (textQ b))) B0 (.slice (some ⟨g, 0, none⟩) n cap) (l.set i (l[i].1, b)) := by
  have h1 := (h.stored (i * 2 + 1) (.string (textQ b))).1
  rw [pars_set b l i hi] at h1
  unfold ParsOwn
  rw [List.length_set, hn]
  exact h1
theorem own_at0 {w : World} {B0 n cap : Nat} {ao : Option Addr} {xs : List Value} (h : w.ownsRow B0 57 2 (.slice ao n cap) n xs) (hn : 0 < n) : ∃ g, ao = some ⟨g, 0, none⟩ ∧ B0 ≤ g ∧ g < w.heap.size ∧ (∀ j, w.frozen? ⟨g, j, none⟩ = false) ∧ n ≤ cap ∧ cap ≤ maxLen := by
  have hlt := h.lt
  obtain ⟨_, h2⟩ := h
  rcases h2 with ⟨e, h0⟩ | ⟨g, cap2, cur, e, hg, hb, hc, hm, hs, ht⟩
  · omega
  · cases e
    exact ⟨g, rfl, hg, heap_lt hb, fun j => Lib.frozen_of_heap hb j, hc, hm⟩

theorem typ_grown2 {w w' : World} {B0 k0 N : Nat} {v : Value} {xs : List Value} {X Y : ByteArray} {ao : Option Addr} {k cap : Nat} (ho : w.ownsRow B0 57 2 v k0 xs) (h : TypAt w N X Y ao k cap) (hg : w.grownBy w' v.ownBlock) : TypAt w' N X Y ao k cap :=
  (hg.block N h.lt (fun e => by
    obtain ⟨_, cur, hc⟩ := row_block ho e.symm
    rw [show w.heap[N]? = _ from h] at hc
    simp at hc)).trans h
theorem row_typ {w : World} {B0 k0 N j : Nat} {v u : Value} {xs : List Value} {X Y : ByteArray} {ao : Option Addr} {k cap : Nat} (ho : w.ownsRow B0 57 2 v k0 xs) (h : TypAt w N X Y ao k cap) : (w.setCell ⟨N, j, none⟩ u).ownsRow B0 57 2 v k0 xs :=
  (Turned.set (S := fun b => b = N) (N := N) (j := j) (v := u) rfl).row ho fun b hb e => by
    obtain ⟨_, cur, hc⟩ := row_block ho hb
    rw [e, show w.heap[N]? = _ from h] at hc
    simp at hc
theorem with_end {w V : World} {N g k cap base i : Nat} {X Y : ByteArray} {L : List ParC} (hN : TypAt V N X Y (some ⟨g, 0, none⟩) k cap) (hR : TypAt V (w.heap.size + 1) ⟨#[]⟩ ⟨#[]⟩ none 0 0) (hb : Below w.heap.size w V)
    (ho : V.ownsRow base 57 2 (.slice (some ⟨g, 0, none⟩) k cap) k (parsCells L)) (hL : L.length = k) (hbase : w.heap.size + 2 ≤ base) (hi : i < L.length) (b : TextA) :
    TypAt (V.setCell ⟨g, i * 2 + 1, none⟩ (.string (textQ b))) N X Y (some ⟨g, 0, none⟩) k cap ∧ TypAt (V.setCell ⟨g, i * 2 + 1, none⟩ (.string (textQ b))) (w.heap.size + 1) ⟨#[]⟩ ⟨#[]⟩ none 0 0 ∧
      Below w.heap.size w ((((V.setCell ⟨g, i * 2 + 1, none⟩ (.string (textQ b))).setCell ⟨w.heap.size + 1, 0, none⟩ (.string X)).setCell ⟨w.heap.size + 1, 1, none⟩ (.string Y)).setCell ⟨w.heap.size + 1, 2, none⟩ (.slice (some ⟨g, 0, none⟩) k cap)) ∧
      ParsOwn ((((V.setCell ⟨g, i * 2 + 1, none⟩ (.string (textQ b))).setCell ⟨w.heap.size + 1, 0, none⟩ (.string X)).setCell ⟨w.heap.size + 1, 1, none⟩ (.string Y)).setCell ⟨w.heap.size + 1, 2, none⟩ (.slice (some ⟨g, 0, none⟩) k cap)) w.heap.size (.slice (some ⟨g, 0, none⟩) k cap) (L.set i (L[i].1, b)) := by
  have hg : base ≤ g ∧ g < V.heap.size := ho.lt g rfl
  have hgN : N ≠ g := fun e => by
    obtain ⟨_, cur, hc⟩ := row_block ho (b := g) rfl
    rw [← e, show V.heap[N]? = _ from hN] at hc
    simp at hc
  have h1 := own_value hi b ho hL
  have hb1 : Below w.heap.size w (V.setCell ⟨g, i * 2 + 1, none⟩ (.string (textQ b))) := hb.setCell (p := ⟨g, i * 2 + 1, none⟩) (by show w.heap.size ≤ g; omega) _
  have h2 := ownsRow_setCell_below h1 (a := ⟨w.heap.size + 1, 0, none⟩) (by show w.heap.size + 1 < base; omega) (.string X)
  have h3 := ownsRow_setCell_below h2 (a := ⟨w.heap.size + 1, 1, none⟩) (by show w.heap.size + 1 < base; omega) (.string Y)
  have h4 := ownsRow_setCell_below h3 (a := ⟨w.heap.size + 1, 2, none⟩) (by show w.heap.size + 1 < base; omega) (.slice (some ⟨g, 0, none⟩) k cap)
  exact ⟨(Below.heap_setCell V ⟨g, i * 2 + 1, none⟩ _ N hgN).trans hN, (Below.heap_setCell V ⟨g, i * 2 + 1, none⟩ _ (w.heap.size + 1) (by show w.heap.size + 1 ≠ g; omega)).trans hR, below_putT hb1 (by omega) _ _ _, row_more h4 (by omega)⟩

set_option maxRecDepth 100000 in
set_option maxHeartbeats 8000000 in
theorem gwithb_any (B : Nat) (v : Value) (t : TypeC) (bd : TextA) (w : World) (h : ParsAt w B v t.2.2) (hB : B ≤ w.heap.size) (hs : SmallT 100000000 t) (hlen : t.2.2.length ≤ 100000) :
    Calls Tryz.prog 47 #[typeV t v, .string (textQ bd)] w fun e w' => ∃ u, e = .returned (typeV (borderedR t bd) u) ∧ ParsOwn w' w.heap.size u (putC bd t.2.2) ∧ Below w.heap.size w w' := by
  have hcp := fun W (hW : Below w.heap.size w W) => gcopyt_any B v t W (h.below hW hB) (Nat.le_trans hB hW.size) hs (by omega)
  obtain ⟨a2, c2, rfl, hc2, hm2⟩ := h.slice
  unfold maxLen at hm2
  obtain ⟨n2, hn2⟩ : ∃ n2, t.2.2.length = n2 := ⟨_, rfl⟩
  unfold typeV at hcp ⊢
  show Calls _ _ _ _ fun e w' => ∃ u, e = .returned (.agg #[.string (textQ t.1), .string (textQ t.2.1), u]) ∧ ParsOwn w' w.heap.size u (putC bd t.2.2) ∧ Below w.heap.size w w'
  obtain ⟨X, hX⟩ : ∃ X, textQ t.1 = X := ⟨_, rfl⟩
  obtain ⟨Y, hY⟩ : ∃ X, textQ t.2.1 = X := ⟨_, rfl⟩
  obtain ⟨T, hT⟩ : ∃ X, textQ bd = X := ⟨_, rfl⟩
  simp only [hX, hY, hn2] at hcp
  rw [hX, hY, hT, hn2]
  rw [hn2] at hc2 hlen
  obtain ⟨w1, hw1⟩ : ∃ w1, (w.alloc (.cells #[.string X, .string Y, .slice a2 n2 c2] 26)).alloc (.cells #[.string ⟨#[]⟩, .string ⟨#[]⟩, .slice none 0 0] 26) = w1 := ⟨_, rfl⟩
  have z1 : w1.heap.size = w.heap.size + 2 := by rw [← hw1]; simp
  have b1 : Below w.heap.size w w1 := by rw [← hw1]; exact ((Below.refl _ _).alloc (Nat.le_refl _) _).alloc (by simp) _
  have t1 : TypAt w1 w.heap.size X Y a2 n2 c2 := by
    rw [← hw1]
    exact (typ_new w _ _ _ _ _).below ((Below.refl _ _).alloc (Nat.le_refl _) _)
  have r1 : TypAt w1 (w.heap.size + 1) ⟨#[]⟩ ⟨#[]⟩ none 0 0 := by
    rw [← hw1]
    have := typ_new (w.alloc (.cells #[.string X, .string Y, .slice a2 n2 c2] 26)) ⟨#[]⟩ ⟨#[]⟩ none 0 0
    rw [World.size_alloc] at this
    exact this
  have hc := hcp w1 b1
  obtain ⟨y0, y1, y2, _⟩ := t1.cells
  have HN := Lib.hid (And.intro hn2 (And.intro hT hlen))
  have K1 := Lib.hid (And.intro r1 (And.intro b1 z1))
  clear h hs hcp hX hY hT hn2 t1 r1 b1 z1
  go_enter Tryz.func47, Tryz.ntmps47
  go_wp2_with fail
  refine hc.mono ?_
  rintro e w2 ⟨u, rfl, ho, hb⟩
  obtain ⟨ao, cap, rfl⟩ := row_slice ho
  rw [HN.out.1] at ho ⊢
  have hb' := hb.alloc hb.size (.cells #[.string X, .string Y, .slice ao n2 cap] 26)
  have K2 : Hid (TypAt (w2.alloc (.cells #[.string X, .string Y, .slice ao n2 cap] 26)) (w.heap.size + 1) ⟨#[]⟩ ⟨#[]⟩ none 0 0 ∧ TypAt (w2.alloc (.cells #[.string X, .string Y, .slice ao n2 cap] 26)) w2.heap.size X Y ao n2 cap ∧ Below w.heap.size w (w2.alloc (.cells #[.string X, .string Y, .slice ao n2 cap] 26)) ∧ (w2.alloc (.cells #[.string X, .string Y, .slice ao n2 cap] 26)).ownsRow w1.heap.size 57 2 (.slice ao n2 cap) n2 (parsCells t.2.2) ∧ w.heap.size + 2 ≤ w2.heap.size ∧ w1.heap.size = w.heap.size + 2) := Lib.hid
    ⟨K1.out.1.below hb', typ_new w2 _ _ _ _ _, K1.out.2.1.trans (hb'.mono K1.out.2.1.size), ownsRow_below4 (by unfold ParsOwn at ho; rw [HN.out.1] at ho; exact ho) ((Below.refl _ _).alloc (Nat.le_refl _) _), by have := K1.out.2.2; have := hb.size; omega, K1.out.2.2⟩
  clear ho hb hb' K1 hc y0 y1 y2
  obtain ⟨w3, hw3⟩ : ∃ w3, w2.alloc (.cells #[.string X, .string Y, .slice ao n2 cap] 26) = w3 := ⟨_, rfl⟩
  rw [hw3] at K2
  have hidx := gidxb_any w3.heap.size (.slice ao n2 cap) t.2.2 w3 (by
    have h5 : ParsOwn w3 w1.heap.size (.slice ao n2 cap) t.2.2 := by unfold ParsOwn; rw [HN.out.1]; exact K2.out.2.2.2.1
    exact h5.at) (Nat.le_refl _)
  obtain ⟨c0, c1, c2', _⟩ := K2.out.2.1.cells
  rcases idx_cases t.2.2 boundM with ⟨hix, _⟩ | ⟨i, hil, hix, _⟩
  · rw [hix] at hidx
    have HR := Lib.hid (put_noneR bd t.2.2 hix)
    clear hix
    go_wp2_with fail
    refine hidx.mono ?_
    rintro e w4 ⟨rfl, hb⟩
    have K4 : Hid (TypAt w4 (w.heap.size + 1) ⟨#[]⟩ ⟨#[]⟩ none 0 0 ∧ TypAt w4 w2.heap.size X Y ao n2 cap ∧ Below w.heap.size w w4 ∧ w4.ownsRow w1.heap.size 57 2 (.slice ao n2 cap) n2 (parsCells t.2.2) ∧ w.heap.size + 2 ≤ w2.heap.size ∧ w1.heap.size = w.heap.size + 2) := Lib.hid
      ⟨K2.out.1.below hb, K2.out.2.1.below hb, K2.out.2.2.1.trans (hb.mono K2.out.2.2.1.size), ownsRow_below4 K2.out.2.2.2.1 hb, K2.out.2.2.2.2.1, K2.out.2.2.2.2.2⟩
    clear hidx hb c0 c1 c2' K2
    obtain ⟨c0, c1, c2', _, _, f2⟩ := K4.out.2.1.cells
    go_wp2_with (at_builtin; refine HeldW.of ?_)
    unfold HeldW
    have b45 : Below w4.heap.size w4 (w4.alloc (.cells #[.string ⟨#[98, 111, 117, 110, 100, 97, 114, 121]⟩, .string ⟨#[]⟩] 57)) := (Below.refl _ _).alloc (Nat.le_refl _) _
    have q5 := heap_alloc_new w4 (.cells #[.string ⟨#[98, 111, 117, 110, 100, 97, 114, 121]⟩, .string ⟨#[]⟩] 57)
    have K5 : Hid (TypAt (w4.alloc (.cells #[.string ⟨#[98, 111, 117, 110, 100, 97, 114, 121]⟩, .string ⟨#[]⟩] 57)) (w.heap.size + 1) ⟨#[]⟩ ⟨#[]⟩ none 0 0 ∧ TypAt (w4.alloc (.cells #[.string ⟨#[98, 111, 117, 110, 100, 97, 114, 121]⟩, .string ⟨#[]⟩] 57)) w2.heap.size X Y ao n2 cap ∧ Below w.heap.size w (w4.alloc (.cells #[.string ⟨#[98, 111, 117, 110, 100, 97, 114, 121]⟩, .string ⟨#[]⟩] 57))) := Lib.hid ⟨K4.out.1.below b45, K4.out.2.1.below b45, K4.out.2.2.1.trans (b45.mono K4.out.2.2.1.size)⟩
    have o5 := ownsRow_below4 K4.out.2.2.2.1 b45
    have o5' : ParsOwn (w4.alloc (.cells #[.string ⟨#[98, 111, 117, 110, 100, 97, 114, 121]⟩, .string ⟨#[]⟩] 57)) w1.heap.size (.slice ao n2 cap) t.2.2 := by unfold ParsOwn; rw [HN.out.1]; exact o5
    have hlen2 : t.2.2.length ≤ 1000000 := by rw [HN.out.1]; have := HN.out.2.2; omega
    refine append_parC rfl _ _ rfl w1.heap.size (.slice ao n2 cap) t.2.2 (boundM, []) rfl o5' (by have := b45.size; have := K4.out.2.2.1.size; have := K4.out.2.2.2.2.2; have := K4.out.2.1.lt; have := K4.out.2.2.2.2.1; omega) hlen2 w4.heap.size 1 rfl (Lib.cell_of_heap q5 0) (Lib.cell_of_heap q5 1) ?_
    intro v' w5 ho hg
    obtain ⟨ao', cap', rfl⟩ := row_slice ho
    have hll : (t.2.2 ++ [((boundM, []) : ParC)]).length = n2 + 1 := by rw [List.length_append, HN.out.1]; rfl
    unfold ParsOwn at ho
    rw [hll] at ho ⊢
    obtain ⟨g, rfl, hg1, hg2, hgf, hg3, hg4⟩ := own_at0 ho (by omega)
    unfold maxLen at hg4
    have tN5 := typ_grown2 o5 K5.out.2.1 hg
    have tR5 := typ_grown2 o5 K5.out.1 hg
    have B5 : Below w.heap.size w w5 := K5.out.2.2.grown hg K5.out.2.2.size (fun q hq => by have := (row_block o5 hq).1; have := K4.out.2.2.2.2.2; omega)
    have tN6 := tN5.pars (some ⟨g, 0, none⟩) (n2 + 1) cap'
    have hNw := K4.out.2.2.2.2.1
    have tR6 : TypAt (w5.setCell ⟨w2.heap.size, 2, none⟩ (.slice (some ⟨g, 0, none⟩) (n2 + 1) cap')) (w.heap.size + 1) ⟨#[]⟩ ⟨#[]⟩ none 0 0 := (Below.heap_setCell w5 ⟨w2.heap.size, 2, none⟩ _ (w.heap.size + 1) (by show w.heap.size + 1 ≠ w2.heap.size; omega)).trans tR5
    have o6 := row_typ (j := 2) (u := .slice (some ⟨g, 0, none⟩) (n2 + 1) cap') ho tN5
    have B6 : Below w.heap.size w (w5.setCell ⟨w2.heap.size, 2, none⟩ (.slice (some ⟨g, 0, none⟩) (n2 + 1) cap')) := B5.setCell (p := ⟨w2.heap.size, 2, none⟩) (by show w.heap.size ≤ w2.heap.size; omega) _
    obtain ⟨e1, e2, e3, e4⟩ := with_end tN6 tR6 B6 o6 hll (by have := K4.out.2.2.2.2.2; omega) (show n2 < (t.2.2 ++ [((boundM, []) : ParC)]).length by omega) bd
    have hcg := ho.cellAt (n2 * 2 + 1) (by omega)
    rw [(pars_at (t.2.2 ++ [((boundM, []) : ParC)]) n2 (by omega)).2] at hcg
    have hfin : Hid (∃ u, Value.agg #[.string X, .string Y, .slice (some ⟨g, 0, none⟩) (n2 + 1) cap'] = Value.agg #[.string X, .string Y, u] ∧ ParsOwn (((((w5.setCell ⟨w2.heap.size, 2, none⟩ (.slice (some ⟨g, 0, none⟩) (n2 + 1) cap')).setCell ⟨g, n2 * 2 + 1, none⟩ (.string T)).setCell ⟨w.heap.size + 1, 0, none⟩ (.string X)).setCell ⟨w.heap.size + 1, 1, none⟩ (.string Y)).setCell ⟨w.heap.size + 1, 2, none⟩ (.slice (some ⟨g, 0, none⟩) (n2 + 1) cap')) w.heap.size u (putC bd t.2.2) ∧
        Below w.heap.size w (((((w5.setCell ⟨w2.heap.size, 2, none⟩ (.slice (some ⟨g, 0, none⟩) (n2 + 1) cap')).setCell ⟨g, n2 * 2 + 1, none⟩ (.string T)).setCell ⟨w.heap.size + 1, 0, none⟩ (.string X)).setCell ⟨w.heap.size + 1, 1, none⟩ (.string Y)).setCell ⟨w.heap.size + 1, 2, none⟩ (.slice (some ⟨g, 0, none⟩) (n2 + 1) cap'))) := Lib.hid (by
      rw [← HN.out.2.1]
      refine ⟨_, rfl, ?_, e3⟩
      have e : (t.2.2 ++ [((boundM, []) : ParC)]).set n2 ((t.2.2 ++ [((boundM, []) : ParC)])[n2].1, bd) = putC bd t.2.2 := by
        rw [HR.out]
        have hn := HN.out.1
        subst hn
        simp
      rw [← e]
      exact e4)
    rw [HN.out.2.1] at e1 e2
    have hgN : g ≠ w2.heap.size := fun e => by
      obtain ⟨_, cur, hc⟩ := row_block ho (b := g) rfl
      rw [e, show w5.heap[w2.heap.size]? = _ from tN5] at hc
      simp at hc
    have hgR : g ≠ w.heap.size + 1 := by have := K4.out.2.2.2.2.2; omega
    have hNR : w2.heap.size ≠ w.heap.size + 1 := by omega
    obtain ⟨p0, p1, p2, _, _, pf2⟩ := tN5.cells
    obtain ⟨q0, q1, q2, _⟩ := e1.cells
    obtain ⟨r0, r1, r2, rf0, rf1, rf2⟩ := e2.cells
    obtain ⟨u0, u1, u2, _⟩ := (e2.put X Y (some ⟨g, 0, none⟩) (n2 + 1) cap').cells
    have hgf1 := hgf (n2 * 2 + 1)
    obtain ⟨cv, hcv⟩ : ∃ cv, Value.string (textQ (t.2.2 ++ [((boundM, []) : ParC)])[n2].2) = cv := ⟨_, rfl⟩
    rw [hcv] at hcg
    clear hcv ho hg tN5 tR5 B5 tN6 tR6 o6 B6 e1 e2 e3 e4 K4 K5 o5 o5' b45 q5 hll hgf c0 c1 c2' f2
    go_wp2
    refine bodyPost_ret (v := .agg #[.string X, .string Y, .slice (some ⟨g, 0, none⟩) (n2 + 1) cap']) (by simp [results, Tryz.f47, go_sem, u0, u1, u2]) rfl ?_
    obtain ⟨u, hu1, hu2, hu3⟩ := hfin.out
    exact ⟨u, by rw [hu1], hu2, hu3⟩
  · rw [hix] at hidx
    have HR := Lib.hid (put_someR bd t.2.2 i hil hix)
    have hin : i < n2 := by rw [← HN.out.1]; exact hil
    clear hix
    go_wp2_with fail
    refine hidx.mono ?_
    rintro e w4 ⟨rfl, hb⟩
    have tR4 := K2.out.1.below hb
    have tN4 := K2.out.2.1.below hb
    have B4 := K2.out.2.2.1.trans (hb.mono K2.out.2.2.1.size)
    have ho := ownsRow_below4 K2.out.2.2.2.1 hb
    obtain ⟨g, rfl, hg1, hg2, hgf, hg3, hg4⟩ := own_at0 ho (by omega)
    unfold maxLen at hg4
    obtain ⟨e1, e2, e3, e4⟩ := with_end tN4 tR4 B4 ho HN.out.1 (by have := K2.out.2.2.2.2.2; omega) hil bd
    have hcg := ho.cellAt (i * 2 + 1) (by omega)
    rw [(pars_at t.2.2 i hil).2] at hcg
    have hfin : Hid (∃ u, Value.agg #[.string X, .string Y, .slice (some ⟨g, 0, none⟩) n2 cap] = Value.agg #[.string X, .string Y, u] ∧ ParsOwn ((((w4.setCell ⟨g, i * 2 + 1, none⟩ (.string T)).setCell ⟨w.heap.size + 1, 0, none⟩ (.string X)).setCell ⟨w.heap.size + 1, 1, none⟩ (.string Y)).setCell ⟨w.heap.size + 1, 2, none⟩ (.slice (some ⟨g, 0, none⟩) n2 cap)) w.heap.size u (putC bd t.2.2) ∧
        Below w.heap.size w ((((w4.setCell ⟨g, i * 2 + 1, none⟩ (.string T)).setCell ⟨w.heap.size + 1, 0, none⟩ (.string X)).setCell ⟨w.heap.size + 1, 1, none⟩ (.string Y)).setCell ⟨w.heap.size + 1, 2, none⟩ (.slice (some ⟨g, 0, none⟩) n2 cap))) := Lib.hid (by
      rw [← HN.out.2.1, HR.out]
      exact ⟨_, rfl, e4, e3⟩)
    rw [HN.out.2.1] at e1 e2
    have hgN : g ≠ w2.heap.size := fun e => by
      obtain ⟨_, cur, hc⟩ := row_block ho (b := g) rfl
      rw [e, show w4.heap[w2.heap.size]? = _ from tN4] at hc
      simp at hc
    have hgR : g ≠ w.heap.size + 1 := by have := K2.out.2.2.2.2.2; omega
    have hNR : w2.heap.size ≠ w.heap.size + 1 := by have := K2.out.2.2.2.2.1; omega
    clear c0 c1 c2'
    obtain ⟨p0, p1, p2, _, _, pf2⟩ := tN4.cells
    obtain ⟨q0, q1, q2, _⟩ := e1.cells
    obtain ⟨r0, r1, r2, rf0, rf1, rf2⟩ := e2.cells
    obtain ⟨u0, u1, u2, _⟩ := (e2.put X Y (some ⟨g, 0, none⟩) n2 cap).cells
    have hgf1 := hgf (i * 2 + 1)
    obtain ⟨cv, hcv⟩ : ∃ cv, Value.string (textQ t.2.2[i].2) = cv := ⟨_, rfl⟩
    rw [hcv] at hcg
    have hinI : (i : Int) < (n2 : Int) := by omega
    clear hcv ho tN4 tR4 B4 e1 e2 e3 e4 K2 hgf hidx hb
    go_wp2
    refine bodyPost_ret (v := .agg #[.string X, .string Y, .slice (some ⟨g, 0, none⟩) n2 cap]) (by simp [results, Tryz.f47, go_sem, u0, u1, u2]) rfl ?_
    obtain ⟨u, hu1, hu2, hu3⟩ := hfin.out
    exact ⟨u, by rw [hu1], hu2, hu3⟩
end Go.Proofs.YtjikghndoklajaaGreatDoor
namespace Go.Proofs.YtjikghndoklajaaGreatDoor
open Go.RowKit

set_option maxRecDepth 100000 in
theorem ghown1_any (f : FieldH) (w : World) (hs : f.2.length ≤ 100000000) : Calls Tryz.prog 51 #[fieldV f] w fun e w' => e = .returned (.bool (!rightB f)) ∧ Below w.heap.size w w' := by
  have hr := fun W => hright_any f W hs
  unfold fieldV at hr ⊢
  obtain ⟨X, hX⟩ : ∃ X, textQ f.1 = X := ⟨_, rfl⟩
  obtain ⟨Y, hY⟩ : ∃ X, textQ f.2 = X := ⟨_, rfl⟩
  simp only [hX, hY] at hr
  rw [hX, hY]
  have b1 : Below w.heap.size w (w.alloc (.cells #[.string X, .string Y] 38)) := (Below.refl _ _).alloc (Nat.le_refl _) _
  have hc := hr (w.alloc (.cells #[.string X, .string Y] 38))
  obtain ⟨r, hq⟩ : ∃ r, rightB f = r := ⟨_, rfl⟩
  rw [hq] at hc ⊢
  clear hr hX hY hq hs
  go_enter Tryz.func51, Tryz.ntmps51
  go_wp2_with fail
  refine hc.mono ?_
  rintro e w1 ⟨rfl, hb⟩
  have Fin := Lib.hid (b1.trans (hb.mono b1.size))
  clear hb hc
  go_wp2
  go_ret
  exact ⟨rfl, Fin.out⟩
theorem enter_hown1 : ∀ args w, (callFunc 51 args).run Tryz.prog w = .ok (.enter 51 args) w := enters_of Tryz.func51 (by kernel_rfl) rfl
set_option maxRecDepth 100000 in
set_option maxHeartbeats 4000000 in
theorem gidxf_none (B : Nat) (v : Value) (l : List FieldH) (w : World) (h : FieldsAt w B v l) (hB : B ≤ w.heap.size) (hr : ∀ f ∈ l, rightB f = true) (hs : ∀ f ∈ l, f.2.length ≤ 100000000) :
    Calls Tryz.prog 84 #[v, .func (.func 51) #[] #[]] w fun e w' => e = .returned (.int .i64 (-1)) ∧ Below w.heap.size w w' := by
  obtain ⟨ao, cap, rfl, hc1, hc2, hat⟩ := h
  have Hat := Lib.hid hat
  have HR := Lib.hid (And.intro hr hs)
  obtain ⟨n, hnl⟩ : ∃ n, l.length = n := ⟨_, rfl⟩
  have Hn := Lib.hid hnl
  unfold maxLen at hc2
  rw [hnl] at hc1 ⊢
  have he := enter_hown1
  clear hat hnl hr hs
  go_enter Tryz.func84, Tryz.ntmps84
  go_wp2
  go_loopw [8] (fun iv wr => ∃ i : Nat, i ≤ n ∧ iv = .int .i64 i ∧ Below w.heap.size w wr) (fun iv _ => n - (intOf iv).toNat)
  case atStart => exact ⟨0, by omega, rfl, Below.refl _ _⟩
  case round =>
    obtain ⟨i, hi, rfl, hbr⟩ := hrel
    by_cases hlt : i < n
    · have hil : i < l.length := by rw [Hn.out]; exact hlt
      obtain ⟨g, off, rfl, hgB, z0, z1⟩ := Hat.out i hil
      have hcall := ghown1_any l[i] wr (HR.out.2 _ (List.getElem_mem hil))
      rw [HR.out.1 _ (List.getElem_mem hil)] at hcall
      unfold fieldV at hcall
      obtain ⟨f, hf⟩ : ∃ f, l[i] = f := ⟨_, rfl⟩
      rw [hf] at z0 z1 hcall
      obtain ⟨X, hX⟩ : ∃ X, textQ f.1 = X := ⟨_, rfl⟩
      obtain ⟨Y, hY⟩ : ∃ X, textQ f.2 = X := ⟨_, rfl⟩
      rw [hX] at z0
      rw [hY] at z1
      rw [hX, hY] at hcall
      have y0 := (hbr.cell (p := ⟨g, off + i * 2, none⟩) (by show g < w.heap.size; omega)).trans z0
      have y1 := (hbr.cell (p := ⟨g, off + i * 2 + 1, none⟩) (by show g < w.heap.size; omega)).trans z1
      have hbz := hbr.size
      clear z0 z1 hX hY hil hf
      go_wp2_with (go_at_fn 51; refine hcall.mono ?_; rintro e w1 ⟨rfl, hw1⟩)
      have hb1 := hbr.trans (hw1.mono hbz)
      go_roundw
      case rel => exact ⟨i + 1, by omega, by go_num, hb1⟩
      case measure => simp [intOf]; omega
    · obtain rfl : i = n := by omega
      go_wp2
      go_ret
      exact ⟨rfl, hbr⟩
set_option maxRecDepth 100000 in
theorem gconf_none (B : Nat) (v : Value) (l : List FieldH) (w : World) (h : FieldsAt w B v l) (hB : B ≤ w.heap.size) (hr : ∀ f ∈ l, rightB f = true) (hs : ∀ f ∈ l, f.2.length ≤ 100000000) :
    Calls Tryz.prog 49 #[v, .func (.func 51) #[] #[]] w fun e w' => e = .returned (.bool false) ∧ Below w.heap.size w w' := by
  have hi := gidxf_none B v l w h hB hr hs
  clear h hr hs
  go_enter Tryz.func49, Tryz.ntmps49
  go_wp2_with fail
  refine hi.mono ?_
  rintro e w1 ⟨rfl, hw1⟩
  go_wp2
  go_ret
  exact ⟨rfl, hw1⟩
end Go.Proofs.YtjikghndoklajaaGreatDoor
namespace Go.Proofs.YtjikghndoklajaaGreatDoor
open Go.RowKit

theorem enter_deep1 : ∀ args w, (callFunc 28 args).run Tryz.prog w = .ok (.enter 28 args) w := enters_of Tryz.func28 (by kernel_rfl) rfl
set_option maxRecDepth 100000 in
set_option maxHeartbeats 4000000 in
theorem gdeep1_any (k T : Nat) (p : TreeM) (fv pv rv : Value) (w : World) (hs : (∃ a n c, fv = .slice a n c) ∧ (∃ a n c, pv = .slice a n c) ∧ ∃ a n c, rv = .slice a n c) (hk : k ≤ 4) (hT : Boxed w T 3 (.int .i64 (k : Int)))
    (hd : ∀ W, Below w.heap.size w W → Calls Tryz.prog 16 #[partV p fv pv rv, .int .i64 ((k : Int) + 1)] W fun e w' => e = .returned (.bool false) ∧ Below W.heap.size W w') :
    Calls Tryz.prog 28 #[partV p fv pv rv, .pointer (some ⟨T, 0, none⟩)] w fun e w' => e = .returned (.bool false) ∧ Below w.heap.size w w' := by
  obtain ⟨⟨a1, n1, c1, rfl⟩, ⟨a2, n2, c2, rfl⟩, ⟨a3, n3, c3, rfl⟩⟩ := hs
  unfold partV at hd ⊢
  obtain ⟨X, hX⟩ : ∃ X, textQ p.typ.1 = X := ⟨_, rfl⟩
  obtain ⟨Y, hY⟩ : ∃ X, textQ p.typ.2.1 = X := ⟨_, rfl⟩
  obtain ⟨D, hD⟩ : ∃ X, textQ p.body = X := ⟨_, rfl⟩
  rw [hX, hY, hD] at hd ⊢
  obtain ⟨w1, hw1⟩ : ∃ w1, w.alloc (.cells #[.slice a1 n1 c1, .string X, .string Y, .slice a2 n2 c2, .string D, .slice a3 n3 c3] 29) = w1 := ⟨_, rfl⟩
  have b1 : Below w.heap.size w w1 := by rw [← hw1]; exact (Below.refl _ _).alloc (Nat.le_refl _) _
  have p1 : PrtAt w1 w.heap.size (.slice a1 n1 c1) (.string X) (.string Y) (.slice a2 n2 c2) (.string D) (.slice a3 n3 c3) := by rw [← hw1]; exact prt_new w _ _ _ _ _ _
  have hcall := hd w1 b1
  have c0 := (boxed_below hT b1).cell
  obtain ⟨y0, y1, y2, y3, y4, y5, _⟩ := p1.cells
  have B1 := Lib.hid b1
  clear hd hX hY hD b1 p1 hT
  go_enter Tryz.func28, Tryz.ntmps28
  go_wp2_with fail
  refine hcall.mono ?_
  rintro e w2 ⟨rfl, hb⟩
  have Fin := Lib.hid (B1.out.trans (hb.mono B1.out.size))
  clear hb hcall
  go_wp2
  go_ret
  exact ⟨rfl, Fin.out⟩
set_option maxRecDepth 100000 in
set_option maxHeartbeats 4000000 in
theorem gdeep_any : ∀ (d k : Nat), k + d = 4 → ∀ (B : Nat) (p : TreeM) (fv pv rv : Value) (w : World), TreeAt w B p fv pv rv → B ≤ w.heap.size → goodM d p →
    Calls Tryz.prog 16 #[partV p fv pv rv, .int .i64 (k : Int)] w fun e w' => e = .returned (.bool false) ∧ Below w.heap.size w w'
  | d, k, hkd, B, p, fv, pv, rv, w, h, hB, hg => by
    obtain ⟨⟨a1, n1, c1, rfl⟩, ⟨a2, n2, c2, rfl⟩, _⟩ := h.slices
    obtain ⟨a3, c3, rfl, hc3, hm3⟩ := h.len
    unfold maxLen at hm3
    have hkids : Hid (p.parts = [] ∨ (k < 4 ∧ ∀ W fv pv rv, Below w.heap.size w W → ∀ i (hi : i < p.parts.length), TreeAt W B p.parts[i] fv pv rv → ∀ V, Below W.heap.size W V → Calls Tryz.prog 16 #[partV p.parts[i] fv pv rv, .int .i64 ((k : Int) + 1)] V fun e w' => e = .returned (.bool false) ∧ Below V.heap.size V w')) := Lib.hid (by
      match d, hkd, hg with
      | 0, _, hg => exact .inl hg.2
      | d + 1, hkd, hg =>
        rcases hg with hg | ⟨_, _, _, hg⟩
        · exact .inl hg.2
        · refine .inr ⟨by omega, fun W fv pv rv hW i hi ht V hV => ?_⟩
          exact gdeep_any d (k + 1) (by omega) B p.parts[i] fv pv rv V (ht.below hV (by have := hW.size; omega)) (by have := hW.size; have := hV.size; omega) (hg _ (List.getElem_mem hi)))
    obtain ⟨n3, hn3⟩ : ∃ n3, p.parts.length = n3 := ⟨_, rfl⟩
    rw [hn3] at hc3
    unfold partV
    have hmf : ∀ (fn : Fn) (first cap : Array Value) (w : World), (Instr.makeFunc fn first cap).run Tryz.prog w = .ok (.func fn first cap) w := fun _ _ _ _ => rfl
    by_cases h0 : n3 = 0
    · rw [hn3]
      subst h0
      clear hkids h hg
      obtain ⟨X, hX⟩ : ∃ X, textQ p.typ.1 = X := ⟨_, rfl⟩
      obtain ⟨Y, hY⟩ : ∃ X, textQ p.typ.2.1 = X := ⟨_, rfl⟩
      obtain ⟨D, hD⟩ : ∃ X, textQ p.body = X := ⟨_, rfl⟩
      rw [hX, hY, hD]
      clear hX hY hD hn3
      go_enter Tryz.func16, Tryz.ntmps16
      go_wp2
      go_ret
      exact ⟨rfl, ((Below.refl _ _).alloc (Nat.le_refl _) _).alloc (by simp) _⟩
    · have hkk := hkids.out.resolve_left (fun e => h0 (by rw [← hn3, e]; rfl))
      obtain ⟨w1, hw1⟩ : ∃ w1, (w.alloc (.cells #[.slice a1 n1 c1, .string (textQ p.typ.1), .string (textQ p.typ.2.1), .slice a2 n2 c2, .string (textQ p.body), .slice a3 n3 c3] 29)).alloc (.cells #[.int .i64 (k : Int)] 3) = w1 := ⟨_, rfl⟩
      have z1 : w1.heap.size = w.heap.size + 2 := by rw [← hw1]; simp
      have b1 : Below w.heap.size w w1 := by rw [← hw1]; exact ((Below.refl _ _).alloc (Nat.le_refl _) _).alloc (by simp) _
      have p1 : PrtAt w1 w.heap.size (.slice a1 n1 c1) (.string (textQ p.typ.1)) (.string (textQ p.typ.2.1)) (.slice a2 n2 c2) (.string (textQ p.body)) (.slice a3 n3 c3) := by
        rw [← hw1]
        exact (prt_new w _ _ _ _ _ _).below ((Below.refl _ _).alloc (Nat.le_refl _) _)
      have x1 : Boxed w1 (w.heap.size + 1) 3 (.int .i64 (k : Int)) := by
        rw [← hw1]
        have := Boxed.new (w.alloc (.cells #[.slice a1 n1 c1, .string (textQ p.typ.1), .string (textQ p.typ.2.1), .slice a2 n2 c2, .string (textQ p.body), .slice a3 n3 c3] 29)) 3 (.int .i64 (k : Int))
        rw [World.size_alloc] at this
        exact this
      have hcon := gconp_none 28 #[.pointer (some ⟨w.heap.size + 1, 0, none⟩)] enter_deep1 B (.slice a3 p.parts.length c3) p.parts w1 (h.below b1 hB).r (by omega) (fun W i hi fv pv rv hW ht => by
        have := gdeep1_any k (w.heap.size + 1) p.parts[i] fv pv rv W ht.slices (by omega) (boxed_below x1 hW) (fun V hV => hkk.2 W fv pv rv (b1.trans (hW.mono (by omega))) i hi ht V hV)
        exact this)
      rw [hn3] at hcon ⊢
      have hk4 := hkk.1
      obtain ⟨X, hX⟩ : ∃ X, textQ p.typ.1 = X := ⟨_, rfl⟩
      obtain ⟨Y, hY⟩ : ∃ X, textQ p.typ.2.1 = X := ⟨_, rfl⟩
      obtain ⟨D, hD⟩ : ∃ X, textQ p.body = X := ⟨_, rfl⟩
      rw [hX, hY, hD] at hw1 p1
      rw [hX, hY, hD]
      obtain ⟨y0, y1, y2, y3, y4, y5, _⟩ := p1.cells
      have c0 := x1.cell
      have B1 := Lib.hid b1
      have hpos : (0 : Int) < (n3 : Int) := by omega
      have hdk : decide ((4 : Int) ≤ (k : Int)) = false := decide_eq_false (by omega)
      clear hkids hkk h hg hX hY hD p1 x1 b1 z1
      go_enter Tryz.func16, Tryz.ntmps16
      go_wp2_with fail
      refine hcon.mono ?_
      rintro e w2 ⟨rfl, hb⟩
      have Fin := Lib.hid (B1.out.trans (hb.mono B1.out.size))
      clear hb hcon
      go_wp2
      go_ret
      exact ⟨rfl, Fin.out⟩
end Go.Proofs.YtjikghndoklajaaGreatDoor
