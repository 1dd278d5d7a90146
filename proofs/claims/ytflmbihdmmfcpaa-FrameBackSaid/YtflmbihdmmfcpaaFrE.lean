/-
  What frame.Stuff and Unstuff come to: told by the plain functions.
-/
import Derived.Test.YtflmbihdmmfcpaaFrD
import Derived.Test.YtflmbihdmmfcpaaKept
namespace Go.Proofs.Ytflmbihdmmfcpaa
open Go.RowKit

/-- A builder takes a text. -/
theorem bput_any (b : Nat) (acc : List UInt8) (x : ByteArray) (w : World) (h : Lib.IsBuilder 69 5 b b (Lib.byteCells acc) w) (hl : acc.length + x.size ≤ 100000000) (hb : b ≤ w.heap.size) :
    Calls Try.prog 29 #[.pointer (some ⟨b, 0, none⟩), .string x] w fun e w' => e = .returned (.tuple #[.int .i64 x.size, .nilIface]) ∧ Lib.IsBuilder 69 5 b b (Lib.byteCells (acc ++ x.data.toList)) w' ∧ Below b w w' := by
  refine (bwrite_any b b _ x w h (by rw [Lib.byteCells_length]; omega) hb).mono ?_
  rintro e w' ⟨he, hbd, hw⟩
  rw [Lib.strCells_eq] at hbd
  rw [Lib.byteCells_append]
  exact ⟨he, .inr hbd, hw⟩

theorem pre_dot (l : List UInt8) : Lib.hasPrefix l [46] = decide (l.head? = some 46) := by
  unfold Lib.hasPrefix
  cases l with
  | nil => rfl
  | cons c l =>
    simp only [List.isPrefixOf, Bool.and_true, List.head?_cons, Option.some.injEq]
    rw [Bool.eq_iff_iff, beq_iff_eq, decide_eq_true_eq]
    exact eq_comm
theorem trim_dot (l : List UInt8) : Lib.trimPrefix l [46] = undotF l := by
  unfold Lib.trimPrefix undotF
  rw [pre_dot]
  cases l with
  | nil => rfl
  | cons c l =>
    by_cases h : (c :: l).head? = some 46
    · rw [if_pos h, decide_eq_true h, if_pos rfl]
      rfl
    · rw [if_neg h, decide_eq_false h, if_neg (by simp)]
theorem whole_append (a b : List (List UInt8)) : wholeF (a ++ b) = wholeF a ++ wholeF b := by simp [wholeF]
theorem whole_dot_len (ls : List (List UInt8)) : (wholeF (ls.map dotF)).length ≤ 2 * (wholeF ls).length := by
  have := stuff_len ls
  unfold stuffF at this
  simp only [List.length_append, List.length_cons, List.length_nil] at this
  omega
theorem whole_take (ls : List (List UInt8)) (i : Nat) : (wholeF (ls.take i)).length ≤ (wholeF ls).length := by
  conv => rhs; rw [← List.take_append_drop i ls]
  rw [whole_append, List.length_append]
  omega
theorem whole_mem (ls : List (List UInt8)) (i : Nat) (h : i < ls.length) : ls[i].length ≤ (wholeF ls).length := by
  have h1 := whole_take ls (i + 1)
  rw [List.take_add_one, List.getElem?_eq_getElem h] at h1
  simp only [Option.toList_some, whole_snoc, List.length_append] at h1
  omega
theorem whole_count (ls : List (List UInt8)) : ls.length ≤ (wholeF ls).length := by
  induction ls with
  | nil => simp
  | cons l ls ih =>
    rw [whole_cons]
    simp only [List.length_append, List.length_cons]
    omega
theorem whole_text {s r : List UInt8} {ls : List (List UInt8)} (h : linesQ s = ls ++ [r]) : s = wholeF ls ++ r := by
  have := join_lines s
  rw [h, join_whole] at this
  exact this.symm
/-- A text stuffed, or nothing, by what waits behind its lines. -/
def stuffR (ls : List (List UInt8)) (r : List UInt8) : List UInt8 := if r = [] then stuffF ls else []
theorem take_dot (ls : List (List UInt8)) (i : Nat) (h : i < ls.length) : wholeF ((ls.take (i + 1)).map dotF) = wholeF ((ls.take i).map dotF) ++ (dotF ls[i] ++ [13, 10]) := by
  rw [List.take_add_one, List.getElem?_eq_getElem h]
  simp only [Option.toList_some, List.map_append, List.map_cons, List.map_nil, whole_snoc]

set_option maxRecDepth 100000 in
set_option maxHeartbeats 2000000 in
theorem fstuff_any (s : ByteArray) (m : Int) (ls : List (List UInt8)) (r : List UInt8) (w : World) (hs : s.size ≤ 1000000) (hm : w.cell? ⟨0, 0, none⟩ = some (.int .i64 m)) (hl : linesQ s.data.toList = ls ++ [r]) :
    Calls Try.prog 19 #[.string s] w fun e w' => e = .returned (.tuple #[.string ⟨(stuffR ls r).toArray⟩, .int .i64 (codeF r)]) ∧ Below w.heap.size w w' := by
  have hlin := flines_any s m ls r w hs hm hl
  have hsz : (wholeF ls).length ≤ s.size := by
    have h1 : s.data.toList.length = s.size := rfl
    rw [whole_text hl, List.length_append] at h1
    omega
  have hcnt : ls.length ≤ 1000000 := Nat.le_trans (whole_count ls) (by omega)
  clear hl
  by_cases hr : r = []
  · subst hr
    rw [show goodF ls [] = ls from rfl, show codeF [] = 0 from rfl] at hlin
    rw [show codeF [] = 0 from rfl, show stuffR ls [] = stuffF ls from rfl]
    go_enter Try.func19, Try.ntmps19
    go_wp2_with fail
    refine hlin.mono ?_
    rintro e w1 ⟨v, rfl, hown, hw1⟩
    obtain ⟨A, c, rfl, hS⟩ := Strs.of_own hown
    have hz := hw1.size
    have hbd := Lib.fresh_isBuilder 69 5 w1
    have hb1 := (Below.refl w1.heap.size w1).alloc (Nat.le_refl _) (.cells #[.pointer none, .slice none 0 0] 69)
    clear hlin hown
    go_wp2
    go_loopw [8, 19] (fun _ iv wr => ∃ i : Nat, i ≤ ls.length ∧ iv = .int .i64 i ∧ Lib.IsBuilder 69 5 w1.heap.size w1.heap.size (Lib.byteCells (wholeF ((ls.take i).map dotF))) wr ∧ Below w1.heap.size w1 wr ∧ w1.heap.size < wr.heap.size) (fun _ iv _ => ls.length - (intOf iv).toNat)
    case atStart => exact ⟨0, by omega, rfl, hbd, hb1, by simp⟩
    case round =>
      obtain ⟨i, hi1, rfl, hbd, hbr, hzr⟩ := hrel
      by_cases hlt : i < ls.length
      · have hS1 := hS.below hbr
        obtain ⟨bb, off, rfl, hbB, hcl⟩ := hS1.at_ hlt
        have hc := hcl i hlt
        rw [texts_get ls i hlt] at hc
        obtain ⟨X, hX⟩ : ∃ X, textQ ls[i] = X := ⟨_, rfl⟩
        have hXl : X.data.toList = ls[i] := by rw [← hX]; rfl
        have hXs : X.size = ls[i].length := by rw [← hX]; rfl
        rw [hX] at hc
        have hst := take_dot ls i hlt
        have h1 := whole_mem ls i hlt
        have h2 := Nat.le_trans (whole_dot_len (ls.take i)) (Nat.mul_le_mul_left 2 (whole_take ls i))
        obtain ⟨acc, hacc⟩ : ∃ acc, wholeF ((ls.take i).map dotF) = acc := ⟨_, rfl⟩
        rw [hacc] at hbd hst h2
        have hpre := Try.strings_HasPrefix X ⟨#[46]⟩ wr
        rw [show (⟨#[46]⟩ : ByteArray).data.toList = [46] from rfl, pre_dot, hXl] at hpre
        have hX8 : X.size ≤ 1000000 := by omega
        have hacc8 : acc.length ≤ 2000000 := by omega
        have Hst := Lib.hid hst
        have HX := Lib.hid hXl
        have HS := Lib.hid hS
        clear hcl hS hS1 hX hXs h1 h2 hacc hst
        by_cases hd : ls[i].head? = some 46
        · rw [decide_eq_true hd] at hpre
          have hdot : dotF ls[i] = 46 :: ls[i] := by unfold dotF; rw [if_pos hd]
          have Hdot := Lib.hid hdot
          clear hd hdot hXl
          go_wp2_with fail
          refine hpre.mono ?_
          rintro e w2 ⟨rfl, hw2⟩
          obtain rfl := hw2.symm
          clear hw2 hpre
          go_wp2_with fail
          refine (bput_any w1.heap.size acc ⟨#[46]⟩ _ hbd (by show acc.length + 1 ≤ _; omega) (by omega)).mono ?_
          rintro e w3 ⟨rfl, hb3, hw3⟩
          have z3 := hw3.size
          go_wp2_with fail
          refine (bput_any w1.heap.size _ X _ hb3 (by simp; omega) (by omega)).mono ?_
          rintro e w4 ⟨rfl, hb4, hw4⟩
          have z4 := hw4.size
          go_wp2_with fail
          refine (bput_any w1.heap.size _ ⟨#[13, 10]⟩ _ hb4 (by show _ + 2 ≤ _; simp; omega) (by omega)).mono ?_
          rintro e w5 ⟨rfl, hb5, hw5⟩
          have z5 := hw5.size
          have hfin : Lib.IsBuilder 69 5 w1.heap.size w1.heap.size (Lib.byteCells (wholeF ((ls.take (i + 1)).map dotF))) w5 := by
            rw [Hst.out, Hdot.out, ← HX.out]
            simpa using hb5
          have hbf := ((hbr.trans hw3).trans hw4).trans hw5
          clear hb3 hw3 hb4 hw4 hb5 hw5 hbd
          go_wp2
          go_roundw
          case rel => exact ⟨i + 1, by omega, by go_num, hfin, hbf, by omega⟩
          case measure => simp [intOf]; omega
        · rw [decide_eq_false hd] at hpre
          have hdot : dotF ls[i] = ls[i] := by unfold dotF; rw [if_neg hd]
          have Hdot := Lib.hid hdot
          clear hd hdot hXl
          go_wp2_with fail
          refine hpre.mono ?_
          rintro e w2 ⟨rfl, hw2⟩
          obtain rfl := hw2.symm
          clear hw2 hpre
          go_wp2_with fail
          refine (bput_any w1.heap.size _ X _ hbd (by omega) (by omega)).mono ?_
          rintro e w4 ⟨rfl, hb4, hw4⟩
          have z4 := hw4.size
          go_wp2_with fail
          refine (bput_any w1.heap.size _ ⟨#[13, 10]⟩ _ hb4 (by show _ + 2 ≤ _; simp; omega) (by omega)).mono ?_
          rintro e w5 ⟨rfl, hb5, hw5⟩
          have z5 := hw5.size
          have hfin : Lib.IsBuilder 69 5 w1.heap.size w1.heap.size (Lib.byteCells (wholeF ((ls.take (i + 1)).map dotF))) w5 := by
            rw [Hst.out, Hdot.out, ← HX.out]
            simpa using hb5
          have hbf := (hbr.trans hw4).trans hw5
          clear hb4 hw4 hb5 hw5 hbd
          go_wp2
          go_roundw
          case rel => exact ⟨i + 1, by omega, by go_num, hfin, hbf, by omega⟩
          case measure => simp [intOf]; omega
      · obtain rfl : i = ls.length := by omega
        have h2 := whole_dot_len ls
        rw [List.take_length] at hbd
        go_wp2_with fail
        refine (bput_any w1.heap.size _ ⟨#[46]⟩ _ hbd (by show _ + 1 ≤ _; omega) (by omega)).mono ?_
        rintro e w3 ⟨rfl, hb3, hw3⟩
        have z3 := hw3.size
        go_wp2_with fail
        refine (bput_any w1.heap.size _ ⟨#[13, 10]⟩ _ hb3 (by show _ + 2 ≤ _; simp; omega) (by omega)).mono ?_
        rintro e w4 ⟨rfl, hb4, hw4⟩
        have z4 := hw4.size
        have hfin : Lib.IsBuilder 69 5 w1.heap.size w1.heap.size (Lib.byteCells (stuffF ls)) w4 := by
          unfold stuffF
          simpa using hb4
        have hstr := Try.Builder_String_any w1.heap.size w1.heap.size (stuffF ls) w4 hfin (by omega)
        have hbf := ((hbr.trans hw3).trans hw4)
        clear hb3 hw3 hb4 hw4 hfin hbd
        go_wp2_with fail
        refine hstr.mono ?_
        rintro e w5 ⟨rfl, hw5⟩
        go_wp2
        go_ret2
        exact ⟨rfl, hw1.trans ((hbf.trans hw5).mono hz)⟩
  · rw [show goodF ls r = [] by unfold goodF; rw [if_neg hr], show codeF r = 2 by unfold codeF; rw [if_neg hr]] at hlin
    rw [show codeF r = 2 by unfold codeF; rw [if_neg hr], show stuffR ls r = [] by unfold stuffR; rw [if_neg hr]]
    go_enter Try.func19, Try.ntmps19
    go_wp2_with fail
    refine hlin.mono ?_
    rintro e w1 ⟨v, rfl, hown, hw1⟩
    go_wp2
    go_ret2
    exact ⟨rfl, hw1⟩
/-- What unstuffing answers. -/
def unV : Option (List UInt8 × List UInt8) → Value
  | none => .tuple #[.string ⟨#[]⟩, .string ⟨#[]⟩, .int .i64 2]
  | some p => .tuple #[.string ⟨p.1.toArray⟩, .string ⟨p.2.toArray⟩, .int .i64 0]
theorem un_miss {x : List UInt8} (h : linesQ x = [x]) : unF x = none := by
  unfold unF
  rw [h]
  rfl
theorem un_dot {x y : List UInt8} (h : linesQ x = [46] :: linesQ y) : unF x = some ([], y) := by
  unfold unF
  rw [h, unL_dot (lines_ne y)]
  show some ([], joinQ (linesQ y)) = _
  rw [join_lines]
theorem un_bad {x l y : List UInt8} (h : linesQ x = l :: linesQ y) (h1 : l ≠ [46]) (h2 : badF l = true) : unF x = none := by
  unfold unF
  rw [h, unL_bad h1 h2]
  rfl
theorem un_more {x l y : List UInt8} (h : linesQ x = l :: linesQ y) (h1 : l ≠ [46]) (h2 : badF l = false) : unF x = (unF y).map fun p => (undotF l ++ 13 :: 10 :: p.1, p.2) := by
  unfold unF
  rw [h, unL_more (lines_ne y) h1 h2]
  cases unL (linesQ y) <;> rfl
theorem undot_len (l : List UInt8) : (undotF l).length ≤ l.length := by
  unfold undotF
  split <;> simp
theorem bad_not {l : List UInt8} (h : l.head? ≠ some 46) : badF l = false := by
  unfold badF
  rw [decide_eq_false h]
  rfl
theorem bad_yes {l : List UInt8} (h : l.head? = some 46) : badF l = !(decide (l.tail.head? = some 46)) := by
  unfold badF
  rw [decide_eq_true h]
  simp
theorem pre_cutF (s : ByteArray) (w : World) : Calls Try.prog 31 #[.string s, .string ⟨#[46]⟩] w fun e w' => e = .returned (.tuple #[.string ⟨(undotF s.data.toList).toArray⟩, .bool (decide (s.data.toList.head? = some 46))]) ∧ w' = w := by
  have := Try.strings_CutPrefix s ⟨#[46]⟩ w
  rw [show (⟨#[46]⟩ : ByteArray).data.toList = [46] from rfl, trim_dot, pre_dot] at this
  exact this
theorem has_dotF (s : ByteArray) (w : World) : Calls Try.prog 28 #[.string s, .string ⟨#[46]⟩] w fun e w' => e = .returned (.bool (decide (s.data.toList.head? = some 46))) ∧ w' = w := by
  have := Try.strings_HasPrefix s ⟨#[46]⟩ w
  rw [show (⟨#[46]⟩ : ByteArray).data.toList = [46] from rfl, pre_dot] at this
  exact this

set_option maxRecDepth 100000 in
set_option maxHeartbeats 2000000 in
theorem funst_any (s : ByteArray) (m : Int) (w : World) (hs : s.size ≤ 10000000) (hm : w.cell? ⟨0, 0, none⟩ = some (.int .i64 m)) :
    Calls Try.prog 21 #[.string s] w fun e w' => e = .returned (unV (unF s.data.toList)) ∧ Below w.heap.size w w' := by
  have hbd := Lib.fresh_isBuilder 69 5 w
  have hb1 := (Below.refl w.heap.size w).alloc (Nat.le_refl _) (.cells #[.pointer none, .slice none 0 0] 69)
  go_enter Try.func21, Try.ntmps21
  go_wp2
  go_loopw [0, 6, 7, 8, 9] (fun sv _ _ _ _ wr => ∃ (x : ByteArray) (acc : List UInt8), sv = .string x ∧ acc.length + x.size ≤ s.size ∧ unF s.data.toList = (unF x.data.toList).map (fun p => (acc ++ p.1, p.2)) ∧ Lib.IsBuilder 69 5 w.heap.size w.heap.size (Lib.byteCells acc) wr ∧ Below w.heap.size w wr ∧ w.heap.size < wr.heap.size) (fun sv _ _ _ _ _ => match sv with | .string x => x.size | _ => 0)
  case atStart => exact ⟨s, [], rfl, by simp, by cases unF s.data.toList <;> rfl, hbd, hb1, by simp⟩
  case round =>
    obtain ⟨x, acc, rfl, hsz, hst, hbd, hbr, hbz⟩ := hrel
    have hmr := bound_abide hm hbr
    have hbx := hbr.size
    rcases cut_ways x with ⟨h1, h2⟩ | ⟨X, Y, h1, h2, h3⟩
    · have hcut := cut_any x x ⟨#[]⟩ false m wr (by omega) hmr h2
      rw [un_miss h1] at hst
      have Hst := Lib.hid hst
      clear hst h1 h2 hbd
      go_wp2_with fail
      refine hcut.mono ?_
      rintro e w2 ⟨rfl, hw2⟩
      go_wp2
      go_ret3
      exact ⟨by rw [Hst.out]; rfl, hbr.trans (hw2.mono hbx)⟩
    · have hcut := cut_any x X Y true m wr (by omega) hmr h1
      have hX46 : X = ⟨#[46]⟩ ∨ X.data.toList ≠ [46] := by
        by_cases e : X.data.toList = [46]
        · exact .inl (ByteArray.ext (Array.ext' e))
        · exact .inr e
      rcases hX46 with rfl | hX
      · rw [un_dot h2] at hst
        have Hst := Lib.hid hst
        have hcl := fun W => clone_any Y W (by omega)
        clear hst h1 h2
        go_wp2_with fail
        refine hcut.mono ?_
        rintro e w2 ⟨rfl, hw2⟩
        have hb2 : Lib.IsBuilder 69 5 w.heap.size w.heap.size (Lib.byteCells acc) w2 := isbuilder_below hbd hw2
        have hbw2 := hbr.trans (hw2.mono hbx)
        have z2 := hbw2.size
        have hstr := Try.Builder_String_any w.heap.size w.heap.size acc w2 hb2 z2
        clear hcut hw2 hbd
        go_wp2_with fail
        refine hstr.mono ?_
        rintro e w3 ⟨rfl, hw3⟩
        have hbw3 := hbw2.trans hw3
        have z3 := hbw3.size
        clear hstr hw3
        go_wp2_with fail
        refine (hcl _).mono ?_
        rintro e w4 ⟨rfl, hw4⟩
        go_wp2
        go_ret3
        refine ⟨?_, hbw3.trans (hw4.mono z3)⟩
        rw [Hst.out]
        show _ = Ending.returned (.tuple #[.string ⟨(acc ++ []).toArray⟩, .string ⟨Y.data.toList.toArray⟩, .int .i64 0])
        rw [List.append_nil]
        rfl
      · have hne : (X.toList == [46]) = false := by rw [Lib.toList_data, beq_eq_false_iff_ne]; exact hX
        have hpc := fun W => pre_cutF X W
        obtain ⟨Z, hZ⟩ : ∃ Z : ByteArray, (⟨(undotF X.data.toList).toArray⟩ : ByteArray) = Z := ⟨_, rfl⟩
        have hZl : Z.data.toList = undotF X.data.toList := by rw [← hZ]
        have hZs : Z.size ≤ X.size := by
          have h5 : Z.size = (undotF X.data.toList).length := by rw [← hZ]; rfl
          rw [h5]
          exact undot_len _
        simp only [hZ] at hpc
        have hhp := fun W => has_dotF Z W
        by_cases hd : X.data.toList.head? = some 46
        · have hZt : Z.data.toList = X.data.toList.tail := by rw [hZl]; unfold undotF; rw [if_pos hd]
          rw [decide_eq_true hd] at hpc
          have hbad := bad_yes hd
          rw [← hZt] at hbad
          by_cases hz : Z.data.toList.head? = some 46
          · rw [decide_eq_true hz] at hhp hbad
            have hn := un_more h2 hX hbad
            have hst2 : unF s.data.toList = (unF Y.data.toList).map (fun p => ((acc ++ Z.data.toList ++ [13, 10]) ++ p.1, p.2)) := by
              rw [hst, hn, hZl]
              cases unF Y.data.toList <;> simp
            have Hst := Lib.hid hst2
            clear hst hst2 hn h1 h2 hbad hz hZt hd hZ hZl hX
            go_wp2_with fail
            refine hcut.mono ?_
            rintro e w2 ⟨rfl, hw2⟩
            have hb2 : Lib.IsBuilder 69 5 w.heap.size w.heap.size (Lib.byteCells acc) w2 := isbuilder_below hbd hw2
            have hbw2 := hbr.trans (hw2.mono hbx)
            have z2 := hbw2.size
            clear hcut hw2 hbd
            go_wp2_with fail
            refine (hpc _).mono ?_
            rintro e w3 ⟨rfl, hw3⟩
            obtain rfl := hw3.symm
            clear hw3 hpc
            go_wp2_with fail
            refine (hhp _).mono ?_
            rintro e w4 ⟨rfl, hw4⟩
            obtain rfl := hw4.symm
            clear hw4 hhp
            go_wp2_with fail
            refine (bput_any w.heap.size _ Z _ hb2 (by omega) z2).mono ?_
            rintro e w5 ⟨rfl, hb5, hw5⟩
            have hbw5 := hbw2.trans hw5
            have z5 := hbw5.size
            clear hb2 hw5
            go_wp2_with fail
            refine (bput_any w.heap.size _ ⟨#[13, 10]⟩ _ hb5 (by show _ + 2 ≤ _; simp; omega) z5).mono ?_
            rintro e w6 ⟨rfl, hb6, hw6⟩
            have hbw6 := hbw5.trans hw6
            have z6 := hw6.size
            have z7 := hb6.elim (fun h => h.lt) (fun h => h.lt)
            clear hb5 hw6
            go_wp2
            go_roundw
            case rel => exact ⟨Y, acc ++ Z.data.toList ++ [13, 10], rfl, by simp; omega, Hst.out, hb6, hbw6, z7⟩
            case measure => show Y.size < x.size; omega
          · rw [decide_eq_false hz] at hhp hbad
            rw [un_bad h2 hX hbad] at hst
            have Hst := Lib.hid hst
            clear hst h1 h2 hbad hz hZt hd hZ hZl hX
            go_wp2_with fail
            refine hcut.mono ?_
            rintro e w2 ⟨rfl, hw2⟩
            have hbw2 := hbr.trans (hw2.mono hbx)
            clear hcut hw2 hbd
            go_wp2_with fail
            refine (hpc _).mono ?_
            rintro e w3 ⟨rfl, hw3⟩
            obtain rfl := hw3.symm
            clear hw3 hpc
            go_wp2_with fail
            refine (hhp _).mono ?_
            rintro e w4 ⟨rfl, hw4⟩
            obtain rfl := hw4.symm
            clear hw4 hhp
            go_wp2
            go_ret3
            exact ⟨by rw [Hst.out]; rfl, hbw2⟩
        · rw [decide_eq_false hd] at hpc
          have hbad := bad_not hd
          have hn := un_more h2 hX hbad
          have hst2 : unF s.data.toList = (unF Y.data.toList).map (fun p => ((acc ++ Z.data.toList ++ [13, 10]) ++ p.1, p.2)) := by
            rw [hst, hn, hZl]
            cases unF Y.data.toList <;> simp
          have Hst := Lib.hid hst2
          clear hst hst2 hn h1 h2 hbad hd hZ hZl hX hhp
          go_wp2_with fail
          refine hcut.mono ?_
          rintro e w2 ⟨rfl, hw2⟩
          have hb2 : Lib.IsBuilder 69 5 w.heap.size w.heap.size (Lib.byteCells acc) w2 := isbuilder_below hbd hw2
          have hbw2 := hbr.trans (hw2.mono hbx)
          have z2 := hbw2.size
          clear hcut hw2 hbd
          go_wp2_with fail
          refine (hpc _).mono ?_
          rintro e w3 ⟨rfl, hw3⟩
          obtain rfl := hw3.symm
          clear hw3 hpc
          go_wp2_with fail
          refine (bput_any w.heap.size _ Z _ hb2 (by omega) z2).mono ?_
          rintro e w5 ⟨rfl, hb5, hw5⟩
          have hbw5 := hbw2.trans hw5
          have z5 := hbw5.size
          clear hb2 hw5
          go_wp2_with fail
          refine (bput_any w.heap.size _ ⟨#[13, 10]⟩ _ hb5 (by show _ + 2 ≤ _; simp; omega) z5).mono ?_
          rintro e w6 ⟨rfl, hb6, hw6⟩
          have hbw6 := hbw5.trans hw6
          have z6 := hw6.size
          have z7 := hb6.elim (fun h => h.lt) (fun h => h.lt)
          clear hb5 hw6
          go_wp2
          go_roundw
          case rel => exact ⟨Y, acc ++ Z.data.toList ++ [13, 10], rfl, by simp; omega, Hst.out, hb6, hbw6, z7⟩
          case measure => show Y.size < x.size; omega
end Go.Proofs.Ytflmbihdmmfcpaa
