/-
  What header.Parse comes to: told by the plain function.
-/
import Derived.Test.YtneihcdeflfahaaDoorHdH
namespace Go.Proofs.YtneihcdeflfahaaDoor
open Go.RowKit

theorem flat_end : ∀ ls : List TextH, ls.flatten.length ≤ (endH ls).length
  | [] => Nat.le_refl _
  | l :: ls => by
    have := flat_end ls
    rw [List.flatten_cons, end_cons, List.length_append, List.length_append, List.length_append]
    omega
theorem lines_end_of {h : TextH} {ls : List TextH} (hl : linesQ h = ls ++ [[]]) : h = endH ls := by
  have e := join_lines h
  rw [hl, join_whole, List.append_nil] at e
  exact e.symm
theorem cut_top (s : TextH) : (cutP s = none ∧ topH (s.length + 1) s = none) ∨
    ∃ (h rest : TextH) (ls : List TextH), cutP s = some (h, rest) ∧ linesQ h = ls ++ [[]] ∧ topH (s.length + 1) s = some (ls, rest) ∧ h.length ≤ s.length ∧ rest.length ≤ s.length ∧ ls.flatten.length ≤ s.length ∧ ls.length ≤ s.length := by
  have hcount : ∀ (h : TextH) (ls : List TextH), linesQ h = ls ++ [[]] → h.length ≤ s.length → ls.flatten.length ≤ s.length ∧ ls.length ≤ s.length := fun h ls h1 h2 => by
    have h3 := flat_end ls
    have h4 := end_len ls
    rw [← lines_end_of h1] at h3 h4
    omega
  unfold cutP
  by_cases hp : Lib.hasPrefix s [13, 10] = true
  · obtain ⟨t, rfl⟩ := (starts_iff s).2 hp
    rw [if_pos hp]
    refine .inr ⟨[], t, [], rfl, rfl, top_starts _ t, by simp, by simp; omega, ?_⟩
    exact hcount [] [] rfl (by simp)
  · rw [if_neg hp]
    rcases top_cut (s.length + 1) s (by omega) (fun h => hp ((starts_iff s).1 h)) with ⟨h1, h2⟩ | ⟨i, ls, h1, h2, h3, h4, h5⟩
    · exact .inl ⟨by rw [if_pos h1], h2⟩
    · rw [if_neg (by omega), h1]
      refine .inr ⟨_, _, ls, rfl, h4, h3, by rw [List.length_take]; omega, by rw [List.length_drop]; omega, ?_⟩
      exact hcount _ ls h4 (by rw [List.length_take]; omega)
/-- What parsing comes to. -/
def ParsePost (s : TextH) (w : World) (e : Ending) (w' : World) : Prop :=
  ∃ v, e = .returned (.tuple #[v, .string (textQ (parseH s).1.2), .int .i64 (parseH s).2]) ∧ FieldsOwn w' w.heap.size v (parseH s).1.1 ∧ Below w.heap.size w w'
theorem post_bad {s : TextH} {c : Int} {w w' : World} (h : parseH s = (([], []), c)) (hb : Below w.heap.size w w') : ParsePost s w (.returned (.tuple #[.slice none 0 0, .string ⟨#[]⟩, .int .i64 c])) w' := by
  unfold ParsePost
  rw [h]
  exact ⟨_, rfl, World.ownsRow_nil _ _ _ _, hb⟩

set_option maxRecDepth 100000 in
set_option maxHeartbeats 4000000 in
theorem hparse_any (s : ByteArray) (m : Int) (w : World) (hs : s.size ≤ 1000000) (hm : w.cell? ⟨0, 0, none⟩ = some (.int .i64 m)) :
    Calls Tryd.prog 13 #[.string s] w (ParsePost s.data.toList w) := by
  have hl : s.data.toList.length = s.size := rfl
  have hcut := hcut_any s m w (by omega) hm
  have hpl := parse_plain s.data.toList
  rcases cut_top s.data.toList with ⟨h1, h2⟩ | ⟨hd, rest, ls, h1, h2, h3, h4, h5, h6, h7⟩
  · rw [h1] at hcut
    rw [h2] at hpl
    have hcut2 : Calls Tryd.prog 26 #[.string s] w fun e w' => e = .returned (.tuple #[.string ⟨#[]⟩, .string ⟨#[]⟩, .bool false]) ∧ Below w.heap.size w w' := hcut
    have Hpl := Lib.hid hpl
    clear hpl hcut h1 h2
    go_enter Tryd.func13, Tryd.ntmps13
    go_wp2_with (go_at_call 26; refine hcut2.mono ?_; rintro e w1 ⟨rfl, hw1⟩)
    go_ret3
    exact post_bad Hpl.out hw1
  · rw [h1] at hcut
    rw [h3] at hpl
    obtain ⟨H, hH⟩ : ∃ H, textQ hd = H := ⟨_, rfl⟩
    obtain ⟨T, hT⟩ : ∃ T, textQ rest = T := ⟨_, rfl⟩
    have hHs : H.size ≤ 1000000 := by rw [← hH]; show hd.length ≤ _; omega
    have hTs : T.size ≤ 1000000 := by rw [← hT]; show rest.length ≤ _; omega
    have hcut2 : Calls Tryd.prog 26 #[.string s] w fun e w' => e = .returned (.tuple #[.string H, .string T, .bool true]) ∧ Below w.heap.size w w' := by
      refine hcut.mono ?_
      rintro e w' ⟨he, hb⟩
      exact ⟨by rw [he, ← hH, ← hT]; rfl, hb⟩
    have hlin : Hid (∀ W, Below w.heap.size w W → Calls Tryd.prog 27 #[.string H] W fun e w' => ∃ A c, e = .returned (.tuple #[.slice A ls.length c, .int .i64 0]) ∧ Hid (Strs w' w'.heap.size A ls.length c (textsF ls) ∧ ls.length ≤ c ∧ c ≤ maxLen) ∧ Below W.heap.size W w') := Lib.hid fun W hW => by
      refine (flines_any H m ls [] W hHs (bound_abide hm hW) (by rw [← hH]; exact h2)).mono ?_
      rintro e w' ⟨v, he, hown, hb⟩
      obtain ⟨A, c, rfl, q1, q2, q3⟩ := Strs.of_ownC hown
      exact ⟨A, c, he, Lib.hid ⟨q1, q2, q3⟩, hb⟩
    have Hpl := Lib.hid hpl
    have HT := Lib.hid hT
    have Hm := Lib.hid hm
    obtain ⟨n, hn⟩ : ∃ n, ls.length = n := ⟨_, rfl⟩
    have Hn := Lib.hid hn
    rw [hn] at h7
    simp only [hn] at hlin
    clear hpl hcut h1 h2 h3 hH hT hn
    go_enter Tryd.func13, Tryd.ntmps13
    go_wp2_with (first | (go_at_call 26; refine hcut2.mono ?_; rintro e w1 ⟨rfl, hw1⟩) | (go_at_call 27; refine (hlin.out _ hw1).mono ?_; rintro e w2 ⟨A, c, rfl, hS, hw2⟩; have hb2 := hw1.trans (hw2.mono hw1.size); clear hw2 hw1))
    go_loopw [11, 31] (fun _ iv wr => ∃ i : Nat, i ≤ n ∧ iv = .int .i64 i ∧ wr = w2 ∧ Hid (∀ j (hj : j < ls.length), j < i → ls[j].length ≤ 998)) (fun _ iv _ => n - (intOf iv).toNat)
    case atStart => exact ⟨0, by omega, rfl, rfl, Lib.hid (fun j _ h => by omega)⟩
    case round =>
      obtain ⟨i, hi, rfl, rfl, hall⟩ := hrel
      by_cases hlt : i < n
      · have hil : i < ls.length := by rw [Hn.out]; exact hlt
        obtain ⟨b, off, rfl, hb, hcl⟩ := hS.out.1.at_ hlt
        have hc := hcl i hlt
        rw [texts_get ls i hil] at hc
        have hbad : Hid (998 < ls[i].length → longH ls = true) := Lib.hid fun h => by
          unfold longH
          rw [List.any_eq_true]
          exact ⟨ls[i], List.getElem_mem hil, decide_eq_true h⟩
        have hyes : Hid (¬ 998 < ls[i].length → ∀ j (hj : j < ls.length), j < i + 1 → ls[j].length ≤ 998) := Lib.hid fun h j hj h3 => by
          rcases Nat.lt_or_ge j i with h4 | h4
          · exact hall.out j hj h4
          · obtain rfl : j = i := by omega
            omega
        obtain ⟨X, hX⟩ : ∃ X, textQ ls[i] = X := ⟨_, rfl⟩
        have hXs : X.size = ls[i].length := by rw [← hX]; rfl
        rw [hX] at hc
        rw [← hXs] at hbad hyes
        clear hX hXs hcl hil hall
        by_cases h998 : 998 < X.size
        · have Hb := Lib.hid (hbad.out h998)
          have Hr : Hid (parseH s.data.toList = (([], []), 3)) := Lib.hid (by
            rw [Hpl.out]
            show (if longH ls = true then _ else _) = _
            rw [if_pos Hb.out])
          clear hbad hyes
          go_wp2
          go_ret3
          exact post_bad Hr.out hb2
        · have Hy := Lib.hid (hyes.out h998)
          clear hbad hyes
          go_wp2
          go_roundw
          case rel => exact ⟨i + 1, by omega, by go_num, trivial, Hy⟩
          case measure => simp [intOf]; omega
      · obtain rfl : i = n := by omega
        have hno : longH ls = false := by
          unfold longH
          rw [List.any_eq_false]
          intro x hx
          obtain ⟨j, hj, rfl⟩ := List.mem_iff_getElem.1 hx
          have := hall.out j hj (by rw [← Hn.out]; exact hj)
          simpa using this
        have hpl2 : parseH s.data.toList = match fieldsH (joinH ls) with
            | none => (([], []), 2)
            | some l => if 64 < l.length then (([], []), 3) else ((l, rest), 0) := by
          rw [Hpl.out]
          show (if longH ls = true then _ else _) = _
          rw [if_neg (by rw [hno]; simp)]
          rfl
        have hrd := hread_any wr.heap.size A i c ls m wr hS.out.1 hS.out.2.1 hS.out.2.2 (Nat.le_refl _) (bound_abide Hm.out hb2) (by omega) (by omega)
        have hcl := fun W => sclone_any T W (by omega)
        have Hpl2 := Lib.hid hpl2
        have Hb2 := Lib.hid hb2
        have hbz := hb2.size
        clear hpl2 hno hall hb2 hlin Hpl Hm hcut2
        cases hR : fieldsH (joinH ls) with
        | none =>
          rw [hR] at hrd
          have Hr : Hid (parseH s.data.toList = (([], []), 2)) := Lib.hid (by rw [Hpl2.out, hR])
          have hrd2 : Calls Tryd.prog 28 #[.slice A i c] wr fun e w' => ∃ v, e = .returned (.tuple #[v, .bool false]) ∧ Below wr.heap.size wr w' := hrd.mono fun e w' ⟨v, he, _, hb⟩ => ⟨v, he, hb⟩
          clear hrd hR
          go_wp2_with (go_at_call 28; refine hrd2.mono ?_; rintro e w3 ⟨v3, rfl, hw3⟩)
          go_ret3
          exact post_bad Hr.out (Hb2.out.trans (hw3.mono hbz))
        | some l =>
          rw [hR] at hrd
          obtain ⟨k, hk⟩ : ∃ k, l.length = k := ⟨_, rfl⟩
          have Hk := Lib.hid hk
          have hrd2 : Calls Tryd.prog 28 #[.slice A i c] wr fun e w' => ∃ ao cap, e = .returned (.tuple #[.slice ao k cap, .bool true]) ∧ Hid (FieldsOwn w' wr.heap.size (.slice ao k cap) l) ∧ Below wr.heap.size wr w' := hrd.mono fun e w' ⟨v, he, ho, hb⟩ => by
            obtain ⟨ao, cap, rfl⟩ := row_slice ho
            rw [Option.getD_some] at ho he
            rw [hk] at he ho
            exact ⟨ao, cap, he, Lib.hid ho, hb⟩
          by_cases h64 : 64 < k
          · have Hr : Hid (parseH s.data.toList = (([], []), 3)) := Lib.hid (by
              rw [Hpl2.out, hR]
              show (if 64 < l.length then _ else _) = _
              rw [if_pos (by omega)])
            clear hrd hR hk
            go_wp2_with (go_at_call 28; refine hrd2.mono ?_; rintro e w3 ⟨ao, cap, rfl, ho3, hw3⟩)
            go_ret3
            exact post_bad Hr.out (Hb2.out.trans (hw3.mono hbz))
          · have Hr : Hid (parseH s.data.toList = ((l, rest), 0)) := Lib.hid (by
              rw [Hpl2.out, hR]
              show (if 64 < l.length then _ else _) = _
              rw [if_neg (by omega)])
            clear hrd hR hk
            go_wp2_with (first | (go_at_call 28; refine hrd2.mono ?_; rintro e w3 ⟨ao, cap, rfl, ho3, hw3⟩) | (go_at_call 29; refine (hcl _).mono ?_; rintro e w4 ⟨rfl, hw4⟩))
            go_ret3
            have hb3 := Hb2.out.trans (hw3.mono hbz)
            unfold ParsePost
            rw [Hr.out]
            refine ⟨.slice ao k cap, by rw [← HT.out]; rfl, ?_, hb3.trans (hw4.mono hb3.size)⟩
            have ho4 := row_more (ownsRow_below4 ho3.out hw4) hbz
            exact ho4
end Go.Proofs.YtneihcdeflfahaaDoor
