/-
  What header.Print comes to: told by the plain function.
-/
import Derived.Test.YtidlpdiephlkhaaGreatDoorZHdE
namespace Go.Proofs.YtidlpdiephlkhaaGreatDoor
open Go.RowKit

theorem end_append (a b : List TextH) : endH (a ++ b) = endH a ++ endH b := by
  unfold endH
  rw [List.flatMap_append]
theorem field_len (f : FieldH) (hn : f.1.length ≤ 900) : (endH (linesH f)).length ≤ f.1.length + 3 * (f.2.length + 1) + 3 := by
  by_cases hb : f.2 = []
  · have := congrArg List.length (lay_none f hb [])
    simp only [List.nil_append] at this
    rw [← this]
    simp
  · have h := congrArg List.length (lay_text f hn hb []).2
    simp only [List.nil_append, List.length_append, List.length_cons, List.length_nil] at h
    have h1 := run_lenH (splitB 32 f.2) ((f.1 ++ [58]), f.1.length + 1, true, true)
    have h2 := wt_split f.2
    have h3 : (soFarH (f.1 ++ [58]) (f.1.length + 1) (splitB 32 f.2)).1.length ≤ (f.1 ++ [58]).length + wtH (splitB 32 f.2) := h1
    simp at h3
    omega
theorem long_append (a b : List TextH) : longH (a ++ b) = (longH a || longH b) := by
  unfold longH
  rw [List.any_append]
theorem head_len : ∀ (l : List FieldH), (∀ f ∈ l, f.1.length ≤ 900 ∧ f.2.length ≤ 100000) → (endH (l.flatMap linesH)).length ≤ 310000 * l.length
  | [], _ => by simp [endH]
  | f :: l, h => by
    have ih := head_len l (fun g hg => h g (List.mem_cons_of_mem _ hg))
    obtain ⟨h1, h2⟩ := h f (List.mem_cons_self ..)
    have h3 := field_len f h1
    rw [List.flatMap_cons, end_append, List.length_append, List.length_cons]
    omega
/-- What printing comes to. -/
def printV10 (l : List FieldH) : Value := .tuple #[.string (textQ (printH l).1), .int .i64 (printH l).2]
theorem printV_bad {l : List FieldH} {f : FieldH} (hf : f ∈ l) (h : rightB f = false) : printV10 l = .tuple #[.string ⟨#[]⟩, .int .i64 2] := by
  unfold printV10 printH
  rw [if_pos (by rw [List.all_eq_false]; exact ⟨f, hf, by rw [h]; simp⟩)]
  rfl
theorem printV_many {l : List FieldH} (h : ∀ f ∈ l, rightB f = true) (h64 : 64 < l.length) : printV10 l = .tuple #[.string ⟨#[]⟩, .int .i64 3] := by
  unfold printV10 printH
  rw [if_neg (by rw [List.all_eq_true.2 h]; simp), if_pos h64]
  rfl
theorem printV_long {l : List FieldH} (h : ∀ f ∈ l, rightB f = true) (h64 : l.length ≤ 64) (hl : longH (l.flatMap linesH) = true) : printV10 l = .tuple #[.string ⟨#[]⟩, .int .i64 3] := by
  unfold printV10 printH
  rw [if_neg (by rw [List.all_eq_true.2 h]; simp), if_neg (by omega), if_pos hl]
  rfl
theorem printV_good {l : List FieldH} (h : ∀ f ∈ l, rightB f = true) (h64 : l.length ≤ 64) (hl : longH (l.flatMap linesH) = false) : printV10 l = .tuple #[.string (textQ (headerH l)), .int .i64 0] := by
  unfold printV10 printH
  rw [if_neg (by rw [List.all_eq_true.2 h]; simp), if_neg (by omega), if_neg (by rw [hl]; simp)]

set_option maxRecDepth 100000 in
set_option maxHeartbeats 4000000 in
theorem hprint_any (B : Nat) (v : Value) (l : List FieldH) (w : World) (h : FieldsAt w B v l) (hB : B ≤ w.heap.size) (hsm : SmallF 100000 l) :
    Calls Tryz.prog 27 #[v] w fun e w' => e = .returned (printV10 l) ∧ Below w.heap.size w w' := by
  have Hl := Lib.hid h
  obtain ⟨ao, cap, rfl, hc1, hc2, hat⟩ := h
  have Hat := Lib.hid hat
  have Hsm := Lib.hid hsm
  obtain ⟨n, hnl⟩ : ∃ n, l.length = n := ⟨_, rfl⟩
  have Hn := Lib.hid hnl
  unfold maxLen at hc2
  rw [hnl] at hc1 ⊢
  clear hat hsm hnl Hl
  go_enter Tryz.func27, Tryz.ntmps27
  go_wp2
  go_loopw [5, 11] (fun _ iv wr => ∃ i : Nat, i ≤ n ∧ iv = .int .i64 i ∧ Hid (∀ j (hj : j < l.length), j < i → rightB l[j] = true) ∧ Below w.heap.size w wr) (fun _ iv _ => n - (intOf iv).toNat)
  case atStart => exact ⟨0, by omega, rfl, Lib.hid (fun j _ h => by omega), Below.refl _ _⟩
  case round =>
    obtain ⟨i, hi, rfl, hg, hbr⟩ := hrel
    by_cases hlt : i < n
    · have hil : i < l.length := by rw [Hn.out]; exact hlt
      obtain ⟨g, off, rfl, hgB, z0, z1⟩ := Hat.out i hil
      obtain ⟨s0, s1⟩ := Hsm.out _ (List.getElem_mem hil)
      have hbad : Hid (rightB l[i] = false → printV10 l = .tuple #[.string ⟨#[]⟩, .int .i64 2]) := Lib.hid fun h => printV_bad (List.getElem_mem hil) h
      have hyes : Hid (rightB l[i] = true → ∀ j (hj : j < l.length), j < i + 1 → rightB l[j] = true) := Lib.hid fun h j hj h3 => by
        rcases Nat.lt_or_ge j i with h4 | h4
        · exact hg.out j hj h4
        · obtain rfl : j = i := by omega
          exact h
      have hr := fun W => hright_any l[i] W (by omega)
      obtain ⟨f, hf⟩ : ∃ f, l[i] = f := ⟨_, rfl⟩
      rw [hf] at z0 z1 s0 s1 hbad hyes
      simp only [hf] at hr
      unfold fieldV at hr
      obtain ⟨X, hX⟩ : ∃ X, textQ f.1 = X := ⟨_, rfl⟩
      obtain ⟨Y, hY⟩ : ∃ Y, textQ f.2 = Y := ⟨_, rfl⟩
      rw [hX] at z0
      rw [hY] at z1
      simp only [hX, hY] at hr
      have y0 := (hbr.cell (p := ⟨g, off + i * 2, none⟩) (by show g < w.heap.size; omega)).trans z0
      have y1 := (hbr.cell (p := ⟨g, off + i * 2 + 1, none⟩) (by show g < w.heap.size; omega)).trans z1
      have hgr : g < wr.heap.size := by have := hbr.size; omega
      have hbz := hbr.size
      clear z0 z1 s0 s1 hX hY hg hil hf
      cases hq : rightB f with
      | false =>
        rw [hq] at hr
        have Hr := Lib.hid (hbad.out hq)
        clear hbad hyes hq
        go_wp2_with (go_at_call 52; refine (hr _).mono ?_; rintro e w1 ⟨rfl, hw1⟩)
        have hb1 := (hbr.alloc hbz _).trans (hw1.mono (by simp; omega))
        go_ret2
        exact ⟨by rw [Hr.out]; rfl, hb1⟩
      | true =>
        rw [hq] at hr
        have Hr := Lib.hid (hyes.out hq)
        clear hbad hyes hq
        go_wp2_with (go_at_call 52; refine (hr _).mono ?_; rintro e w1 ⟨rfl, hw1⟩)
        have hb1 := (hbr.alloc hbz _).trans (hw1.mono (by simp; omega))
        go_roundw
        case rel => exact ⟨i + 1, by omega, by go_num, Hr, hb1⟩
        case measure => simp [intOf]; omega
    · obtain rfl : i = n := by omega
      have hall : ∀ f ∈ l, rightB f = true := fun f hf => by
        obtain ⟨j, hj, rfl⟩ := List.mem_iff_getElem.1 hf
        exact hg.out j hj (by rw [← Hn.out]; exact hj)
      have Hall := Lib.hid hall
      clear hall hg
      by_cases h64 : 64 < i
      · have Hr := Lib.hid (printV_many Hall.out (by rw [Hn.out]; exact h64))
        go_wp2
        go_ret2
        exact ⟨by rw [Hr.out]; rfl, hbr⟩
      · have hz := hbr.size
        have hbd := Lib.fresh_isBuilder 69 5 wr
        have hb1 := (Below.refl wr.heap.size wr).alloc (Nat.le_refl _) (.cells #[.pointer none, .slice none 0 0] 69)
        obtain ⟨w1, hw1⟩ : ∃ w1, w1 = wr := ⟨_, rfl⟩
        subst hw1
        go_wp2
        go_loopw [8, 24] (fun _ iv wx => ∃ k : Nat, k ≤ i ∧ iv = .int .i64 k ∧ Hid (longH ((l.take k).flatMap linesH) = false) ∧ Lib.IsBuilder 69 5 w1.heap.size w1.heap.size (Lib.byteCells (endH ((l.take k).flatMap linesH))) wx ∧ Below w1.heap.size w1 wx ∧ w1.heap.size < wx.heap.size) (fun _ iv _ => i - (intOf iv).toNat)
        case atStart => exact ⟨0, by omega, rfl, Lib.hid rfl, hbd, hb1, by simp⟩
        case round =>
          obtain ⟨k, hk, rfl, hlong, hbk, hbw, hzw⟩ := hrel
          have hbw0 := hbr.trans (hbw.mono hz)
          by_cases hlk : k < i
          · have hil : k < l.length := by rw [Hn.out]; exact hlk
            obtain ⟨g, off, rfl, hgB, z0, z1⟩ := Hat.out k hil
            obtain ⟨s0, s1⟩ := Hsm.out _ (List.getElem_mem hil)
            have hrt := (right_iff _).1 (Hall.out _ (List.getElem_mem hil))
            have hn64 := hrt.n64
            have htk : l.take (k + 1) = l.take k ++ [l[k]] := by rw [List.take_succ_eq_append_getElem hil]
            have hhl := head_len (l.take k) (fun f hf => by
              obtain ⟨q1, q2⟩ := Hsm.out f (List.mem_of_mem_take hf)
              have q3 := ((right_iff _).1 (Hall.out f (List.mem_of_mem_take hf))).n64
              exact ⟨by omega, q2⟩)
            rw [List.length_take, Hn.out] at hhl
            have hlay := fun W (hW : Lib.IsBuilder 69 5 w1.heap.size w1.heap.size (Lib.byteCells (endH ((l.take k).flatMap linesH))) W) (hz2 : w1.heap.size ≤ W.heap.size) => hlayf_any w1.heap.size w1.heap.size (endH ((l.take k).flatMap linesH)) l[k] W hW hz2 (by omega) (by omega) (by omega)
            have hbad : Hid (longH (linesH l[k]) = true → printV10 l = .tuple #[.string ⟨#[]⟩, .int .i64 3]) := Lib.hid fun h => printV_long Hall.out (by rw [Hn.out]; omega) (by
              have e : l = l.take (k + 1) ++ l.drop (k + 1) := (List.take_append_drop _ _).symm
              rw [e, List.flatMap_append, long_append, htk, List.flatMap_append, long_append, List.flatMap_cons, long_append, h]
              simp)
            have hnext : Hid (longH (linesH l[k]) = false → longH ((l.take (k + 1)).flatMap linesH) = false) := Lib.hid fun h => by
              rw [htk, List.flatMap_append, long_append, hlong.out, List.flatMap_cons, long_append, h]
              rfl
            have htext : Hid (endH ((l.take k).flatMap linesH) ++ endH (linesH l[k]) = endH ((l.take (k + 1)).flatMap linesH)) := Lib.hid (by
              rw [htk, List.flatMap_append, end_append, List.flatMap_cons, List.flatMap_nil, List.append_nil])
            obtain ⟨f, hf⟩ : ∃ f, l[k] = f := ⟨_, rfl⟩
            rw [hf] at z0 z1 hbad hnext htext
            simp only [hf] at hlay
            unfold fieldV at hlay
            obtain ⟨X, hX⟩ : ∃ X, textQ f.1 = X := ⟨_, rfl⟩
            obtain ⟨Y, hY⟩ : ∃ Y, textQ f.2 = Y := ⟨_, rfl⟩
            obtain ⟨acc, hacc⟩ : ∃ acc, endH ((l.take k).flatMap linesH) = acc := ⟨_, rfl⟩
            rw [hX] at z0
            rw [hY] at z1
            simp only [hX, hY, hacc] at hlay
            rw [hacc] at hbk htext
            have y0 := (hbw0.cell (p := ⟨g, off + k * 2, none⟩) (by show g < w.heap.size; omega)).trans z0
            have y1 := (hbw0.cell (p := ⟨g, off + k * 2 + 1, none⟩) (by show g < w.heap.size; omega)).trans z1
            have hgr : g < wr.heap.size := by have := hbw0.size; omega
            have p1 : Below wr.heap.size wr (wr.alloc (.cells #[.string X, .string Y] 52)) := (Below.refl _ _).alloc (Nat.le_refl _) _
            have hcall := hlay _ (isbuilder_below hbk p1) (by have := p1.size; omega)
            have p2 := Lib.hid (hbw.trans (p1.mono (by omega)))
            have p3 : wr.heap.size < (wr.alloc (.cells #[.string X, .string Y] 52)).heap.size := by simp
            have P3 := Lib.hid p3
            clear z0 z1 s0 s1 hX hY hil hf hlay hbk htk hhl hrt hn64 hacc hlong p1 p3
            cases hq : longH (linesH f) with
            | true =>
              rw [hq] at hcall
              have Hr := Lib.hid (hbad.out hq)
              clear hbad hnext htext hq
              go_wp2_with (go_at_call 53; refine hcall.mono ?_; rintro e w3 ⟨rfl, _, hw3⟩)
              have hb3 := hbr.trans ((p2.out.trans hw3).mono hz)
              go_ret2
              exact ⟨by rw [Hr.out]; rfl, hb3⟩
            | false =>
              rw [hq] at hcall
              have Hr := Lib.hid (hnext.out hq)
              clear hbad hnext hq
              go_wp2_with (go_at_call 53; refine hcall.mono ?_; rintro e w3 ⟨rfl, hbd3, hw3⟩)
              have hb3 := p2.out.trans hw3
              have hz3 : w1.heap.size < w3.heap.size := (hbd3 trivial).lt
              go_roundw
              case rel => exact ⟨k + 1, by omega, by go_num, Hr, .inr (by rw [← htext.out]; exact hbd3 trivial), hb3, hz3⟩
              case measure => simp [intOf]; omega
          · obtain rfl : k = i := by omega
            have hhl := head_len l (fun f hf => by
              obtain ⟨q1, q2⟩ := Hsm.out f hf
              have q3 := ((right_iff _).1 (Hall.out f hf)).n64
              exact ⟨by omega, q2⟩)
            rw [List.take_of_length_le (by rw [Hn.out]; exact Nat.le_refl _)] at hbk hlong
            have Hr := Lib.hid (printV_good Hall.out (by rw [Hn.out]; omega) hlong.out)
            rw [Hn.out] at hhl
            have hw2 := bwrite_any w1.heap.size w1.heap.size _ ⟨#[13, 10]⟩ wr hbk (by rw [Lib.byteCells_length]; show _ + 2 ≤ _; omega) (by omega)
            rw [show Lib.byteCells (endH (l.flatMap linesH)) ++ Lib.strCells ⟨#[13, 10]⟩ = Lib.byteCells (headerH l) by unfold headerH; rw [Lib.byteCells_append]; rfl] at hw2
            have hhd : (headerH l).length ≤ 100000000 := by unfold headerH; simp; omega
            clear hbk hlong hhl
            go_wp2_with fail
            refine hw2.mono ?_
            rintro e w3 ⟨rfl, hb3, hw3⟩
            have hbw3 := hbw.trans hw3
            have hz3 := hbw3.size
            have hstr := Tryz.Builder_String_any w1.heap.size w1.heap.size (headerH l) w3 (.inr hb3) hz3
            clear hw2 hb3 hw3
            go_wp2_with fail
            refine hstr.mono ?_
            rintro e w5 ⟨rfl, hw5⟩
            go_wp2
            go_ret2
            exact ⟨by rw [Hr.out]; rfl, hbr.trans ((hbw3.trans hw5).mono hz)⟩
end Go.Proofs.YtidlpdiephlkhaaGreatDoor
