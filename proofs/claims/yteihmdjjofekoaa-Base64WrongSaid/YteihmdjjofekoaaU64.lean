/-
  What base64.Unfold comes to: told by the plain function.
-/
import Derived.Test.YteihmdjjofekoaaD64
import Derived.Test.YteihmdjjofekoaaU64P
import Derived.Test.YteihmdjjofekoaaBuildK
namespace Go.Proofs.Yteihmdjjofekoaa
open Go.RowKit

theorem rlen_any (x : ByteArray) (last : Bool) (w : World) : Calls Try.prog 26 #[.string x, .bool last] w fun e w' => e = .returned (.bool (rightLen x.data.toList last)) ∧ w' = w := by
  have hl : x.data.toList.length = x.size := rfl
  unfold rightLen
  rw [hl]
  cases last with
  | true =>
    rw [if_pos rfl]
    by_cases h1 : 1 ≤ x.size
    · by_cases h2 : x.size ≤ 76
      · rw [decide_eq_true ⟨h1, h2⟩]
        have hb : decide ((x.size : Int) ≤ 76) = true := decide_eq_true (by omega)
        clear hl
        go_enter Try.func26, Try.ntmps26
        go_wp2
        go_ret
        exact ⟨rfl, rfl⟩
      · rw [decide_eq_false (fun h => h2 h.2)]
        have hb : decide ((x.size : Int) ≤ 76) = false := decide_eq_false (by omega)
        clear hl
        go_enter Try.func26, Try.ntmps26
        go_wp2
        go_ret
        exact ⟨rfl, rfl⟩
    · rw [decide_eq_false (fun h => h1 h.1)]
      clear hl
      go_enter Try.func26, Try.ntmps26
      go_wp2
      go_ret
      exact ⟨rfl, rfl⟩
  | false =>
    rw [if_neg (by simp)]
    by_cases h1 : x.size = 76
    · rw [decide_eq_true h1]
      have hb : ((x.size : Int) == 76) = true := by rw [beq_iff_eq]; omega
      clear hl
      go_enter Try.func26, Try.ntmps26
      go_wp2
      go_ret
      exact ⟨rfl, rfl⟩
    · rw [decide_eq_false h1]
      have hb : ((x.size : Int) == 76) = false := by rw [beq_eq_false_iff_ne]; omega
      clear hl
      go_enter Try.func26, Try.ntmps26
      go_wp2
      go_ret
      exact ⟨rfl, rfl⟩

def strLen (v : Value) : Nat := match v with
  | .string s => s.size
  | _ => 0
theorem text_bytes (t : ByteArray) : t.toList = t.data.toList := by
  cases t with
  | mk d => cases d with
    | mk l => simp
theorem cell_in {w : World} {b : Nat} {v : Value} (h : w.cell? ⟨b, 0, none⟩ = some v) : b < w.heap.size := by
  rcases Nat.lt_or_ge b w.heap.size with h1 | h1
  · exact h1
  · rw [World.cell?, Array.getElem?_eq_none h1] at h
    simp at h

set_option maxRecDepth 100000 in
set_option maxHeartbeats 2000000 in
theorem unfold_any (s : ByteArray) (m : Int) (w : World) (hs : s.size ≤ 100000) (hm : w.cell? ⟨0, 0, none⟩ = some (.int .i64 m)) :
    Calls Try.prog 12 #[.string s] w fun e w' => e = .returned (decV (unfoldB s.data.toList)) ∧ Below w.heap.size w w' := by
  have hgrow := grow_new (s.size : Int) (by omega) (by omega) w
  have hmb := cell_in hm
  have Hu := Lib.hid (unfold_lines s.data.toList)
  have hsl : s.data.toList.length = s.size := rfl
  rw [hsl] at Hu
  clear hsl
  go_enter Try.func12, Try.ntmps12
  go_wp2_with (go_at_call 24; refine hgrow.mono ?_)
  rintro e w1 ⟨rfl, hb1, hw1⟩
  clear hgrow
  go_wp2
  go_loopw [0, 5, 6, 7] (fun sv _ _ _ wr => ∃ (cur : ByteArray) (acc : List UInt8) (f : Nat), sv = .string cur ∧ cur.size ≤ f ∧ cur.size + acc.length ≤ s.size ∧ Lib.BuilderAt 44 5 w.heap.size w.heap.size (.pointer (some ⟨w.heap.size, 0, none⟩)) (Lib.byteCells acc) wr ∧ Below w.heap.size w wr ∧
      linesF s.size s.data.toList = (match linesF f cur.data.toList with
        | some r => some (acc ++ r)
        | none => none)) (fun sv _ _ _ _ => strLen sv)
  case atStart => exact ⟨s, [], s.size, rfl, Nat.le_refl _, by simp, hb1, hw1, by cases linesF s.size s.data.toList <;> rfl⟩
  case round =>
    obtain ⟨cur, acc, f, rfl, hf, hla, hbd, hbr, hst⟩ := hrel
    have hbz := hbr.size
    have hm2 : wr.cell? ⟨0, 0, none⟩ = some (.int .i64 m) := (hbr.cell (p := ⟨0, 0, none⟩) hmb).trans hm
    by_cases h0 : cur.size = 0
    · have hce : cur.data.toList = [] := List.eq_nil_of_length_eq_zero h0
      have hce2 : cur = ⟨#[]⟩ := ByteArray.ext (Array.ext' hce)
      subst hce2
      rw [hce, lines_nil] at hst
      rw [hst] at Hu
      simp only [List.append_nil] at Hu
      have hstr := Try.Builder_String_any w.heap.size w.heap.size acc wr (.inr hbd) hbz
      clear hce hst
      go_wp2_with (go_at_call 28; refine hstr.mono ?_)
      rintro e w2 ⟨rfl, hw2⟩
      have hb2 := hbr.trans hw2
      have hdc := dec_any ⟨acc.toArray⟩ w2 (by have : (⟨acc.toArray⟩ : ByteArray).size = acc.length := rfl; omega)
      rw [show (⟨acc.toArray⟩ : ByteArray).data.toList = acc from rfl, ← Hu.out] at hdc
      obtain ⟨r, hr⟩ : ∃ r, unfoldB s.data.toList = r := ⟨_, rfl⟩
      rw [hr] at hdc
      have Hr := Lib.hid hr
      clear hstr hr Hu
      cases r with
      | none =>
        go_wp2_with (go_at_call 10; refine hdc.mono ?_)
        rintro e w3 ⟨rfl, hw3⟩
        unfold decV
        go_wp2
        go_ret2
        exact ⟨by rw [Hr.out]; rfl, hb2.trans (hw3.mono hb2.size)⟩
      | some l =>
        go_wp2_with (go_at_call 10; refine hdc.mono ?_)
        rintro e w3 ⟨rfl, hw3⟩
        unfold decV
        go_wp2
        go_ret2
        exact ⟨by rw [Hr.out]; rfl, hb2.trans (hw3.mono hb2.size)⟩
    · obtain ⟨f', rfl⟩ : ∃ f', f = f' + 1 := ⟨f - 1, by omega⟩
      have hne : (cur.toList == []) = false := by
        rw [text_bytes, beq_eq_false_iff_ne]
        intro e
        exact h0 (by have := congrArg List.length e; exact this)
      have hne2 : cur.data.toList ≠ [] := fun e => h0 (by have := congrArg List.length e; exact this)
      have hcut := Try.strings_Cut cur ⟨#[13, 10]⟩ m wr (by omega) hm2
      rw [show (⟨#[13, 10]⟩ : ByteArray).data.toList = [13, 10] from rfl] at hcut
      have hways := cut_ways cur.data.toList
      rw [linesF, if_neg hne2] at hst
      obtain ⟨⟨x, y, z⟩, hcu⟩ : ∃ cu, Lib.cut cur.data.toList [13, 10] = cu := ⟨_, rfl⟩
      rw [hcu] at hcut hways hst
      simp only at hcut hways hst
      obtain ⟨X, hX⟩ : ∃ X : ByteArray, X = ⟨x.toArray⟩ := ⟨_, rfl⟩
      obtain ⟨Y, hY⟩ : ∃ Y : ByteArray, Y = ⟨y.toArray⟩ := ⟨_, rfl⟩
      rw [← hX, ← hY] at hcut
      have hXl : X.data.toList = x := by rw [hX]
      have hYl : Y.data.toList = y := by rw [hY]
      have hXs : X.size = x.length := by rw [hX]; rfl
      have hYs : Y.size = y.length := by rw [hY]; rfl
      rcases hways with rfl | ⟨rfl, hcat⟩
      · have hst2 : linesF s.size s.data.toList = none := by rw [hst]; rfl
        rw [hst2] at Hu
        simp only at Hu
        clear hcu hst hst2 hX hY hXl hYl hne2
        go_wp2_with (go_at_call 25; refine hcut.mono ?_; rintro e w2 ⟨rfl, nq, rfl⟩)
        go_ret2
        exact ⟨by rw [Hu.out]; rfl, below_drewN hbr nq⟩
      · have hlen : cur.size = X.size + 2 + Y.size := by
          have := congrArg List.length hcat
          simp only [List.length_append, List.length_cons] at this
          have h2 : cur.data.toList.length = cur.size := rfl
          omega
        have hrl := fun W => rlen_any X (decide (y = [])) W
        rw [hXl] at hrl
        have hYe : (Y.toList == []) = decide (y = []) := by
          rw [text_bytes, hYl]
          cases y <;> rfl
        obtain ⟨last, hlast⟩ : ∃ last, decide (y = []) = last := ⟨_, rfl⟩
        rw [hlast] at hrl hYe hst
        cases hr : rightLen x last with
        | false =>
          rw [hr] at hst hrl
          have hst2 : linesF s.size s.data.toList = none := by rw [hst]; rfl
          rw [hst2] at Hu
          simp only at Hu
          clear hcu hst hst2 hX hY hXl hYl hne2 hcat hr hlast
          go_wp2_with (first | (go_at_call 25; refine hcut.mono ?_; rintro e w2 ⟨rfl, nq, rfl⟩) | (go_at_call 26; refine (hrl _).mono ?_; rintro e w3 ⟨rfl, hw3⟩; obtain rfl := hw3.symm; clear hw3))
          go_ret2
          exact ⟨by rw [Hu.out]; rfl, below_drewN hbr nq⟩
        | true =>
          rw [hr] at hst hrl
          have hst2 : linesF s.size s.data.toList = (match linesF f' y with
              | some r => some (acc ++ x ++ r)
              | none => none) := by
            rw [hst]
            simp only [and_self, if_true]
            cases linesF f' y with
            | none => rfl
            | some r => simp
          have Hst2 := Lib.hid hst2
          have HYl := Lib.hid hYl
          have hcx : Lib.byteCells acc ++ Lib.strCells X = Lib.byteCells (acc ++ x) := by rw [hX, Lib.byteCells_append]; rfl
          have hbw : ∀ n, Calls Try.prog 27 #[.pointer (some ⟨w.heap.size, 0, none⟩), .string X] (wr.drewN n) fun e w' => e = .returned (.tuple #[.int .i64 X.size, .nilIface]) ∧ (Lib.BuilderAt 44 5 w.heap.size w.heap.size (.pointer (some ⟨w.heap.size, 0, none⟩)) (Lib.byteCells (acc ++ x)) w' ∧ Below w.heap.size (wr.drewN n) w') := fun n => by
            have := bwrite_any w.heap.size w.heap.size (Lib.byteCells acc) X (wr.drewN n) (.inr hbd) (by rw [Lib.byteCells_length]; omega) hbz
            rw [hcx] at this
            exact this
          clear hcu hst hst2 hX hY hXl hYl hne2 hcat hr hlast
          go_wp2_with (first | (go_at_call 25; refine hcut.mono ?_; rintro e w2 ⟨rfl, nq, rfl⟩) | (go_at_call 26; refine (hrl _).mono ?_; rintro e w3 ⟨rfl, hw3⟩; obtain rfl := hw3.symm; clear hw3) | (go_at_call 27; refine (hbw _).mono ?_; rintro e w4 ⟨rfl, hb4, hw4⟩))
          exact ⟨⟨Y, acc ++ x, f', rfl, by omega, by rw [List.length_append]; omega, hb4, (below_drewN hbr nq).trans hw4, by rw [Hst2.out, HYl.out]⟩, by unfold strLen; simp only; omega⟩
end Go.Proofs.Yteihmdjjofekoaa
