/-
  What the closure of words.reader comes to: one word more, told by the plain function.
-/
import Derived.Test.YtjkcjbbkplonkaaDoorW5K
import Derived.Test.YtjkcjbbkplonkaaDoorW5L
import Derived.Test.YtjkcjbbkplonkaaDoorR3D
import Derived.Deep.QuietTactic
import Derived.BigQuiet
namespace Go.Proofs.YtjkcjbbkplonkaaDoor
open Go.RowKit

theorem text_bytesW (t : ByteArray) : t.toList = t.data.toList := by
  cases t with
  | mk d => cases d with
    | mk l => simp
theorem letters_len {p l : List UInt8} (h : lettersW p = some l) : l.length ≤ p.length := by
  rw [letters_some h, List.length_append, List.length_append]
  omega
theorem step_ended' (acc p : List UInt8) : stepW (some (acc, true)) p = none := rfl

/-- What is asked of the world ahead of a word. -/
structure RdPre (B b N C D E : Nat) (acc : List UInt8) (k : Int) (e : Bool) (w : World) : Prop where
  bd : Lib.IsBuilder 36 5 B b (Lib.byteCells acc) w
  cd : CoderAt w N k
  xc : Boxed w C 4 (.bool e)
  xd : Boxed w D 53 (.pointer (some ⟨N, 0, none⟩))
  xe : Boxed w E 33 (.pointer (some ⟨b, 0, none⟩))
  hN : B ≤ N
  hC : B ≤ C
  hB : B ≤ w.heap.size

set_option maxRecDepth 100000 in
set_option maxHeartbeats 4000000 in
theorem wread_none (B b N C D E : Nat) (acc : List UInt8) (k : Int) (e : Bool) (x : ByteArray) (w : World) (h : RdPre B b N C D E acc k e w) (hx : x.size ≤ 1000000) (hst : stepW (some (acc, e)) x.data.toList = none) :
    Calls Tryd.prog 30 #[.string x, .pointer (some ⟨C, 0, none⟩), .pointer (some ⟨D, 0, none⟩), .pointer (some ⟨E, 0, none⟩)] w fun e w' => e = .returned (.bool false) ∧ (Below B w w' ∧ Kept3 N b C w w') := by
  have hlet := wlet_any x w hx
  have c1 := h.xc.cell
  have c2 := h.xd.cell
  cases hl : lettersW x.data.toList with
  | none =>
    rw [hl] at hlet
    unfold letV at hlet
    simp only at hlet
    clear hl hst
    go_enter Tryd.func30, Tryd.ntmps30
    go_wp2_with (go_at_call 31; refine hlet.mono ?_; rintro e w1 ⟨⟨p, rfl⟩, rfl⟩)
    go_ret
    exact ⟨rfl, Below.refl _ _, Kept3.refl _ _ _ _⟩
  | some l =>
    have hll := letters_len hl
    rw [show x.data.toList.length = x.size from rfl] at hll
    rw [hl] at hlet
    unfold letV at hlet
    simp only at hlet
    obtain ⟨L, hL⟩ : ∃ L : ByteArray, (⟨l.toArray⟩ : ByteArray) = L := ⟨_, rfl⟩
    have hLd : L.data.toList = l := by rw [← hL]
    have hLs : L.size ≤ 1000000 := by
      have e1 : L.size = L.data.toList.length := rfl
      rw [e1, hLd]
      omega
    rw [hL] at hlet
    cases e with
    | true =>
      clear hl hst hLd hL hll
      go_enter Tryd.func30, Tryd.ntmps30
      go_wp2_with (go_at_call 31; refine hlet.mono ?_; rintro e w1 ⟨⟨p, rfl⟩, rfl⟩)
      go_ret
      exact ⟨rfl, Below.refl _ _, Kept3.refl _ _ _ _⟩
    | false =>
      have hdec := cdec_any N k L w h.cd (by omega)
      have hst2 : readOne x.data.toList = none := by
        cases hr : readOne x.data.toList with
        | none => rfl
        | some y =>
          unfold stepW at hst
          rw [hr] at hst
          simp at hst
      unfold readOne at hst2
      rw [hl] at hst2
      simp only [← hLd] at hst2
      cases hd : decB L.data.toList with
      | none =>
        rw [hd] at hdec
        unfold decV at hdec
        simp only at hdec
        have hdec2 : Calls Tryd.prog 32 #[.pointer (some ⟨N, 0, none⟩), .string L] w fun e w' => e = .returned (.tuple #[.string ⟨#[]⟩, .int .i64 2]) ∧ w.grownBy w' (some N) := hdec.mono fun _ _ ⟨h1, _, h3⟩ => ⟨h1, h3⟩
        have hBN := h.hN
        have hBw := h.hB
        clear hl hst hst2 hLd hL hll hd hdec
        go_enter Tryd.func30, Tryd.ntmps30
        go_wp2_with (first | (go_at_call 31; refine hlet.mono ?_; rintro e w1 ⟨⟨p, rfl⟩, rfl⟩) | (go_at_call 32; refine hdec2.mono ?_; rintro e w1 ⟨rfl, hg⟩))
        go_ret
        exact ⟨rfl, below_grown_at hg hBw hBN, Kept3.grown hg⟩
      | some y =>
        rw [hd] at hdec hst2
        unfold decV at hdec
        simp only at hdec hst2
        obtain ⟨Y, hY⟩ : ∃ Y : ByteArray, (⟨y.toArray⟩ : ByteArray) = Y := ⟨_, rfl⟩
        have hYd : Y.data.toList = y := by rw [← hY]
        have hYs : Y.size = y.length := by rw [← hY]; rfl
        rw [hY] at hdec
        have hdec2 : Calls Tryd.prog 32 #[.pointer (some ⟨N, 0, none⟩), .string L] w fun e w' => e = .returned (.tuple #[.string Y, .int .i64 0]) ∧ w.grownBy w' (some N) := hdec.mono fun _ _ ⟨h1, _, h3⟩ => ⟨h1, h3⟩
        have hBN := h.hN
        have hBw := h.hB
        by_cases h0 : y = []
        · have hb : (Y.toList == []) = true := by rw [text_bytesW, hYd, h0]; rfl
          clear hl hst hst2 hLd hL hll hd hdec hY hYd hYs h0
          go_enter Tryd.func30, Tryd.ntmps30
          go_wp2_with (first | (go_at_call 31; refine hlet.mono ?_; rintro e w1 ⟨⟨p, rfl⟩, rfl⟩) | (go_at_call 32; refine hdec2.mono ?_; rintro e w1 ⟨rfl, hg⟩))
          go_ret
          exact ⟨rfl, below_grown_at hg hBw hBN, Kept3.grown hg⟩
        · have hb : (Y.toList == []) = false := by rw [text_bytesW, hYd]; exact beq_eq_false_iff_ne.2 h0
          have h45 : 45 < Y.size := by
            rw [hYs]
            refine Decidable.byContradiction fun hn => ?_
            rw [if_neg (by simp [h0]; omega)] at hst2
            cases hst2
          clear hl hst hst2 hLd hL hll hd hdec hY hYd hYs h0
          go_enter Tryd.func30, Tryd.ntmps30
          go_wp2_with (first | (go_at_call 31; refine hlet.mono ?_; rintro e w1 ⟨⟨p, rfl⟩, rfl⟩) | (go_at_call 32; refine hdec2.mono ?_; rintro e w1 ⟨rfl, hg⟩))
          go_ret
          exact ⟨rfl, below_grown_at hg hBw hBN, Kept3.grown hg⟩

set_option maxRecDepth 100000 in
set_option maxHeartbeats 4000000 in
theorem wread_some (B b N C D E : Nat) (acc acc' : List UInt8) (k : Int) (e e2 : Bool) (x : ByteArray) (w : World) (h : RdPre B b N C D E acc k e w) (hx : x.size ≤ 1000000) (hacc : acc.length ≤ 1000000) (hst : stepW (some (acc, e)) x.data.toList = some (acc', e2)) :
    Calls Tryd.prog 30 #[.string x, .pointer (some ⟨C, 0, none⟩), .pointer (some ⟨D, 0, none⟩), .pointer (some ⟨E, 0, none⟩)] w fun e w' => e = .returned (.bool true) ∧ ((∃ k', RdPre B b N C D E acc' k' e2 w') ∧ Below B w w' ∧ Kept3 N b C w w') := by
  cases e with
  | true => cases hst
  | false =>
    have hlet := wlet_any x w hx
    have c1 := h.xc.cell
    have c2 := h.xd.cell
    cases hr : readOne x.data.toList with
    | none =>
      unfold stepW at hst
      rw [hr] at hst
      cases hst
    | some y =>
      obtain ⟨hw1, hy0, hy1⟩ := one_some hr
      have hl : lettersW x.data.toList = some (encB y) := by rw [hw1]; exact letters_word _
      have hac : acc' = acc ++ y ∧ e2 = decide (y.length < 45) := by
        unfold stepW at hst
        rw [hr] at hst
        simp only [Option.some.injEq, Prod.mk.injEq] at hst
        exact ⟨hst.1.symm, hst.2.symm⟩
      rw [hl] at hlet
      unfold letV at hlet
      simp only at hlet
      obtain ⟨L, hL⟩ : ∃ L : ByteArray, (⟨(encB y).toArray⟩ : ByteArray) = L := ⟨_, rfl⟩
      have hLd : L.data.toList = encB y := by rw [← hL]
      have hLs : L.size ≤ 1000 := by
        have e1 : L.size = L.data.toList.length := rfl
        rw [e1, hLd, enc_len]
        omega
      rw [hL] at hlet
      have hdec := cdec_any N k L w h.cd (by omega)
      rw [hLd, dec_enc] at hdec
      unfold decV at hdec
      simp only at hdec
      obtain ⟨Y, hY⟩ : ∃ Y : ByteArray, (⟨y.toArray⟩ : ByteArray) = Y := ⟨_, rfl⟩
      have hYd : Y.data.toList = y := by rw [← hY]
      have hYs : Y.size = y.length := by rw [← hY]; rfl
      rw [hY] at hdec
      have hb : (Y.toList == []) = false := by rw [text_bytesW, hYd]; exact beq_eq_false_iff_ne.2 hy0
      have h45 : ¬ (45 : Int) < Y.size := by omega
      obtain ⟨rfl, rfl⟩ := hac
      obtain ⟨csN, hcsN⟩ := h.cd.held
      have hwrite : ∀ w2, w.grownBy w2 (some N) → Calls Tryd.prog 16 #[.pointer (some ⟨b, 0, none⟩), .string Y] w2 fun e w' => e = .returned (.tuple #[.int .i64 Y.size, .nilIface]) ∧ (Lib.BuilderAt 36 5 B b (.pointer (some ⟨b, 0, none⟩)) (Lib.byteCells (acc ++ y)) w' ∧ Below B w2 w' ∧ Lib.OthersKept 5 (some b) w2 w' ∧ w2.heap.size ≤ w'.heap.size) := fun w2 hg => by
        have := bwrite_k2 B b (Lib.byteCells acc) Y w2 (isbuilder_grown_at h.bd hcsN ⟨by decide, by decide⟩ hg) (by rw [Lib.byteCells_length]; omega) (Nat.le_trans h.hB hg.size)
        rw [show Lib.byteCells acc ++ Lib.strCells Y = Lib.byteCells (acc ++ y) by rw [← hYd, Lib.byteCells_append]; rfl] at this
        exact this
      have nC := held_ne_box hcsN (by decide) h.xc
      have nE := held_ne_box hcsN (by decide) h.xe
      have nD := held_ne_box hcsN (by decide) h.xd
      have bN := isbuilder_ne_held h.bd (by decide) hcsN
      have bC := isbuilder_ne h.bd h.xc
      have bE := isbuilder_ne h.bd h.xe
      have bD := isbuilder_ne h.bd h.xd
      have HP := Lib.hid h
      have HW := Lib.hid hwrite
      have HYs := Lib.hid hYs
      have HNE := Lib.hid (And.intro nC (And.intro nE (And.intro nD (And.intro bN (And.intro bC (And.intro bE bD))))))
      have Hcs := Lib.hid hcsN
      have hCE : E ≠ C := fun e => by
        have h1 : w.heap[E]? = some (.cells #[_] 33 (0, 0)) := h.xe
        have h2 : w.heap[C]? = some (.cells #[_] 4 (0, 0)) := h.xc
        rw [e, h2] at h1
        simp at h1
      have hCD : D ≠ C := fun e => by
        have h1 : w.heap[D]? = some (.cells #[_] 53 (0, 0)) := h.xd
        have h2 : w.heap[C]? = some (.cells #[_] 4 (0, 0)) := h.xc
        rw [e, h2] at h1
        simp at h1
      have HCE := Lib.hid (And.intro hCE hCD)
      clear hl hst hr hw1 hy0 hLd hL hLs hY hYd hYs hwrite nC nE nD bN bC bE bD h hcsN hCE hCD
      go_enter Tryd.func30, Tryd.ntmps30
      go_wp2_with (first | (go_at_call 31; refine hlet.mono ?_; rintro e w1 ⟨⟨p, rfl⟩, rfl⟩) | (go_at_call 32; refine hdec.mono ?_))
      rintro e w2 ⟨rfl, hcd, hg⟩
      obtain ⟨nC, nE, nD, bN, bC, bE, bD⟩ := HNE.out
      have xc2 := HP.out.xc.kept hg (by simpa using nC)
      have xd2 := HP.out.xd.kept hg (by simpa using nD)
      have xe2 := HP.out.xe.kept hg (by simpa using nE)
      have e2 := xe2.cell
      have Hxc2 := Lib.hid xc2
      have Hxd2 := Lib.hid xd2
      have Hxe2 := Lib.hid xe2
      have Hcd := Lib.hid hcd
      have Hg := Lib.hid hg
      clear xc2 xd2 xe2 hcd hdec nC nE nD bN bC bE bD
      go_wp2_with (go_at_call 16; refine (HW.out _ Hg.out).mono ?_)
      rintro e w3 ⟨rfl, hb3, l3, o3, z3⟩
      obtain ⟨nC, nE, nD, bN, bC, bE, bD⟩ := HNE.out
      have xc3 := kept_box o3 (by decide) bC Hxc2.out
      have xd3 := kept_box o3 (by decide) bD Hxd2.out
      have xe3 := kept_box o3 (by decide) bE Hxe2.out
      have c3 := xc3.cell
      have f3 := xc3.frozen
      have hcdN : w3.heap[N]? = w2.heap[N]? := by
        obtain ⟨cs, hh, _⟩ := Hcd.out
        have hh : w2.heap[N]? = some (.cells cs 77 (0, 0)) := hh
        rw [hh]
        exact o3 _ _ hh (by simpa using bN) (fun x fz e => by simp at e)
      have Hxc3 := Lib.hid xc3
      have Hxd3 := Lib.hid xd3
      have Hxe3 := Lib.hid xe3
      have HcdN := Lib.hid hcdN
      have Hb3 := Lib.hid hb3
      have Ho3 := Lib.hid o3
      clear xc3 xd3 xe3 hcdN hb3 o3 nC nE nD bN bC bE bD hlet
      go_wp2
      go_ret
      obtain ⟨nC, nE, nD, bN, bC, bE, bD⟩ := HNE.out
      have hbw : Below B w w3 := (below_grown_at Hg.out HP.out.hB HP.out.hN).trans l3
      refine ⟨rfl, ⟨_, ⟨isbuilder_box (t := 4) (by decide) _ (.inr Hb3.out) ⟨_, Hxc3.out⟩, .inr ((Hcd.out.same HcdN.out).same (Below.heap_setCell w3 ⟨C, 0, none⟩ _ N (fun e => nC e.symm))), ?_, Hxd3.out.other HCE.out.2 _, Hxe3.out.other HCE.out.1 _, HP.out.hN, HP.out.hC, by have := hbw.size; have := HP.out.hB; simp [World.setCell]; omega⟩⟩, hbw.setCell (p := ⟨C, 0, none⟩) HP.out.hC _, ((Kept3.grown Hg.out).trans (Kept3.of Ho3.out z3)).set _⟩
      have hx := Hxc3.out.set (.bool (decide (y.length < 45)))
      have hd : decide ((Y.size : Int) < 45) = decide (y.length < 45) := by
        rw [HYs.out]
        exact decide_eq_decide.2 (by omega)
      rw [hd]
      exact hx
end Go.Proofs.YtjkcjbbkplonkaaDoor
