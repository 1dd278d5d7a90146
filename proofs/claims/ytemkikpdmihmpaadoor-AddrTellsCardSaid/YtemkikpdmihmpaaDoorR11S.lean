/-
  The document's answer of layer 11: a text's signs.
-/
import Derived.Test.YtemkikpdmihmpaaDoorR11A
import Derived.Test.YtemkikpdmihmpaaDoorAdR
import Derived.Test.YtemkikpdmihmpaaDoorA11Q
namespace Go.Proofs.YtemkikpdmihmpaaDoor
open Go.RowKit

theorem infoSign : (Tryd.prog.info? 65).map (fun i => (i.zero, i.size, i.bytes)) = some (some (.agg #[.int .u8 0, .string ⟨#[]⟩]), 2, 24) := by kernel_rfl
/-- Signs, as a row of somebody's own. -/
def signCells (t : SignA) : List Value := [.int .u8 (t.1.toNat : Int), .string (textQ t.2)]
def signsCells (l : List SignA) : List Value := l.flatMap signCells
theorem signs_len (l : List SignA) : (signsCells l).length = l.length * 2 := by
  induction l with
  | nil => rfl
  | cons a l ih =>
    show (signCells a ++ signsCells l).length = _
    rw [List.length_append, ih, List.length_cons]
    simp [signCells]
    omega
theorem signs_at : ∀ (l : List SignA) (i : Nat) (h : i < l.length), (signsCells l)[i * 2]? = some (.int .u8 (l[i].1.toNat : Int)) ∧ (signsCells l)[i * 2 + 1]? = some (.string (textQ l[i].2))
  | a :: l, 0, _ => ⟨rfl, rfl⟩
  | a :: l, i + 1, h => by
    obtain ⟨h1, h2⟩ := signs_at l i (by simpa using h)
    have e : ∀ k, (signsCells (a :: l))[(i + 1) * 2 + k]? = (signsCells l)[i * 2 + k]? := fun k => by
      show (signCells a ++ signsCells l)[(i + 1) * 2 + k]? = _
      rw [List.getElem?_append_right (by simp [signCells]; omega)]
      congr 1
      simp [signCells]
      omega
    exact ⟨(e 0).trans h1, (e 1).trans h2⟩
abbrev SignsOwn (w : World) (B : Nat) (v : Value) (l : List SignA) : Prop := w.ownsRow B 65 2 v l.length (signsCells l)
theorem append_signA {w : World} {ops : Array Oper} {rest : List Oper} {o : Oper} {a : Act} {Q : Exit → Act → World → Prop} (hgd : o.guard = none) (s x : Operand)
    (ho : o.op = .call { callee := .builtin .append, args := #[s, x], argTypes := #[61, 61] }) (B : Nat) (v : Value) (l : List SignA) (p : SignA) (hs : a.eval s = v) (hown : SignsOwn w B v l) (hB : B ≤ w.heap.size) (hl : l.length ≤ 1000000)
    (b c : Nat) (hx : a.eval x = .slice (some ⟨b, 0, none⟩) 1 c) (h0 : w.cell? ⟨b, 0, none⟩ = some (.int .u8 (p.1.toNat : Int))) (h1 : w.cell? ⟨b, 1, none⟩ = some (.string (textQ p.2)))
    (h : ∀ v' w', SignsOwn w' B v' (l ++ [p]) → w.grownBy w' v.ownBlock → wpList Tryd.prog ops Q rest (a.put o.dst v') w') : wpList Tryd.prog ops Q (o :: rest) a w := by
  obtain ⟨i0, hi, hz0, hz1, hz2⟩ := info_parts infoSign
  refine wpList_append_own w hgd s x 61 ho B 65 i0 (.agg #[.int .u8 0, .string ⟨#[]⟩]) 2 24 Tryd.underlying61 hi hz0 hz1 hz2 rfl (by decide) v l.length _ hs hown ⟨b, 0, none⟩ 1 c (signCells p) hx rfl (fun j u hj => ?_) (fun u hu => ?_) (by unfold maxLen; omega) (by omega) hB (fun v' w' q1 q2 _ => ?_)
  · rw [Addr.add_lit, Nat.zero_add]
    match j, hj with
    | 0, hj => cases hj; exact h0
    | 1, hj => cases hj; exact h1
    | j + 2, hj => cases hj
  · simp only [signCells, List.mem_cons, List.not_mem_nil, or_false] at hu
    rcases hu with rfl | rfl <;> rfl
  · refine h v' w' ?_ q2
    unfold SignsOwn
    rw [List.length_append, show signsCells (l ++ [p]) = signsCells l ++ signCells p by simp [signsCells]]
    exact q1
/-- Bytes, as a row of somebody's own. -/
abbrev BytesOwn (w : World) (B : Nat) (v : Value) (l : TextA) : Prop := w.ownsRow B 5 1 v l.length (Lib.byteCells l)
theorem append_byteA {w : World} {ops : Array Oper} {rest : List Oper} {o : Oper} {a : Act} {Q : Exit → Act → World → Prop} (hgd : o.guard = none) (s x : Operand)
    (ho : o.op = .call { callee := .builtin .append, args := #[s, x], argTypes := #[49, 49] }) (B : Nat) (v : Value) (l : TextA) (p : UInt8) (hs : a.eval s = v) (hown : BytesOwn w B v l) (hB : B ≤ w.heap.size) (hl : l.length ≤ 1000000)
    (b c : Nat) (hx : a.eval x = .slice (some ⟨b, 0, none⟩) 1 c) (h0 : w.cell? ⟨b, 0, none⟩ = some (.int .u8 (p.toNat : Int)))
    (h : ∀ v' w', BytesOwn w' B v' (l ++ [p]) → w.grownBy w' v.ownBlock → wpList Tryd.prog ops Q rest (a.put o.dst v') w') : wpList Tryd.prog ops Q (o :: rest) a w := by
  obtain ⟨i0, hi, hz0, hz1, hz2⟩ := info_parts infoByte
  refine wpList_append_own w hgd s x 49 ho B 5 i0 (.int .u8 0) 1 1 Tryd.underlying49 hi hz0 hz1 hz2 rfl (by decide) v l.length _ hs hown ⟨b, 0, none⟩ 1 c [.int .u8 (p.toNat : Int)] hx rfl (fun j u hj => ?_) (fun u hu => ?_) (by unfold maxLen; omega) (by omega) hB (fun v' w' q1 q2 _ => ?_)
  · rw [Addr.add_lit, Nat.zero_add]
    match j, hj with
    | 0, hj => cases hj; exact h0
    | j + 1, hj => cases hj
  · rw [List.mem_singleton.1 hu]
    rfl
  · refine h v' w' ?_ q2
    unfold BytesOwn
    rw [List.length_append, Lib.byteCells_append]
    exact q1

/-- What stands at the head of the loop. -/
def SgSt (s : ByteArray) (R : Option (List SignA)) (i : Nat) (acc : List SignA) : Prop := acc.length ≤ i ∧ (sgA (s.data.toList.drop i)).map (acc ++ ·) = R
section
variable {s : ByteArray} {R : Option (List SignA)} {i : Nat} {acc : List SignA}
theorem sgst_end (h : SgSt s R i acc) (hi : ¬ i < s.size) : R = some acc := by
  rw [← h.2, List.drop_of_length_le (by show s.size ≤ i; omega), sg_end rfl]
  simp
theorem sgst_blank (h : SgSt s R i acc) (hi : i < s.size) (hb : s[i] = 32 ∨ s[i] = 9) : SgSt s R (i + 1) acc := by
  refine ⟨by have := h.1; omega, ?_⟩
  rw [← h.2, cons_at s i hi, ← sg_skip (s[i] :: _), skip_blank hb, sg_skip]
theorem sgst_cmt (h : SgSt s R i acc) (hi : i < s.size) (hb : s[i] = 40) {j : Nat} (hj : i ≤ j) (hc : cmtA (s.data.toList.drop (i + 1)) = some (s.data.toList.drop j)) : SgSt s R j acc := by
  refine ⟨by have := h.1; omega, ?_⟩
  rw [← h.2, cons_at s i hi, ← sg_skip (s[i] :: _), hb, skip_cmt hc, sg_skip]
theorem sgst_bad (h : SgSt s R i acc) (hi : i < s.size) (hb : s[i] = 40) (hc : cmtA (s.data.toList.drop (i + 1)) = none) : R = none := by
  rw [← h.2, cons_at s i hi, hb, sg_step (skip_bad hc)]
  rfl
theorem map_two (o : Option (List SignA)) (acc : List SignA) (t : SignA) : (o.map (t :: ·)).map (acc ++ ·) = o.map ((acc ++ [t]) ++ ·) := by
  cases o <;> simp
theorem sgst_mark (h : SgSt s R i acc) (hi : i < s.size) (hb : markA s[i]) : SgSt s R (i + 1) (acc ++ [(s[i], [])]) := by
  refine ⟨by have := h.1; simp; omega, ?_⟩
  rw [← h.2, cons_at s i hi, mark_sg hb, map_two]
theorem quote_sg (r : TextA) : sgA (34 :: r) = match hearA false [] r with | none => none | some x => (sgA x.2).map ((113, x.1) :: ·) := by
  rw [sg_step (skip_else (by decide) (by decide) r), step_cons, if_neg (by decide), if_pos rfl]
  cases hearA false [] r <;> rfl
theorem sgst_quote (h : SgSt s R i acc) (hi : i < s.size) (hb : s[i] = 34) {j : Nat} {x : TextA} (hj : i < j) (hc : hearA false [] (s.data.toList.drop (i + 1)) = some (x, s.data.toList.drop j)) : SgSt s R j (acc ++ [(113, x)]) := by
  refine ⟨by have := h.1; simp; omega, ?_⟩
  rw [← h.2, cons_at s i hi, hb, quote_sg, hc, map_two]
theorem sgst_qbad (h : SgSt s R i acc) (hi : i < s.size) (hb : s[i] = 34) (hc : hearA false [] (s.data.toList.drop (i + 1)) = none) : R = none := by
  rw [← h.2, cons_at s i hi, hb, quote_sg, hc]
  rfl
theorem sgst_run (h : SgSt s R i acc) (hi : i < s.size) {j : Nat} (hj : i < j) (hjs : j ≤ s.size) (hr : ∀ k (h : k < s.size), i ≤ k → k < j → rByte s[k] = true) (he : ∀ h : j < s.size, rByte s[j] = false) : SgSt s R j (acc ++ [(114, (s.data.toList.drop i).take (j - i))]) := by
  have hl : s.data.toList.length = s.size := rfl
  obtain ⟨t1, t2⟩ := run_at rByte (s.data.toList.drop i) (j - i) (fun k hk h2 => by
    rw [List.length_drop] at hk
    rw [List.getElem_drop]
    exact hr (i + k) (by omega) (by omega) (by omega)) (fun hk => by
    rw [List.length_drop] at hk
    rw [List.getElem_drop]
    have e : i + (j - i) = j := by omega
    have h3 : s.data.toList[i + (j - i)]? = s.data.toList[j]? := by rw [e]
    rw [List.getElem?_eq_getElem (by omega), List.getElem?_eq_getElem (show j < s.data.toList.length by omega)] at h3
    rw [Option.some.inj h3]
    exact he (by omega))
  rw [List.drop_drop, show i + (j - i) = j by omega] at t2
  refine ⟨by have := h.1; simp; omega, ?_⟩
  have hri := hr i hi (Nat.le_refl _) hj
  rw [← h.2, ← map_two]
  congr 1
  rw [← t1]
  have h4 : stepA (s.data.toList.drop i) = some ((114, (s.data.toList.drop i).takeWhile rByte), (s.data.toList.drop i).dropWhile rByte) := by
    rw [cons_at s i hi]
    exact run_step hri
  have h5 : skipA (s.data.toList.drop i) = s.data.toList.drop i := by
    rw [cons_at s i hi]
    exact run_skip hri
  rw [t2] at h4
  exact (sg_take h5 h4).symm
theorem sgst_no (h : SgSt s R i acc) (hi : i < s.size) (h1 : ¬ (s[i] = 32 ∨ s[i] = 9)) (h2 : s[i] ≠ 40) (h3 : ¬ markA s[i]) (h4 : s[i] ≠ 34) (h5 : rByte s[i] = false) : R = none := by
  rw [← h.2, cons_at s i hi, sg_step (skip_else h1 h2 _), step_cons, if_neg h3, if_neg h4, if_neg (by rw [h5]; simp)]
  rfl
end
theorem nat_eq {c : UInt8} {k : UInt8} (h : c = k) : ((c.toNat : Int) == (k.toNat : Int)) = true := by rw [h, beq_iff_eq]
theorem nat_ne {c : UInt8} {k : UInt8} (h : c ≠ k) : ((c.toNat : Int) == (k.toNat : Int)) = false := by
  rw [beq_eq_false_iff_ne]
  exact fun e => h (UInt8.toNat_inj.1 (by omega))
theorem nat_bne {c : UInt8} {k : UInt8} (h : c ≠ k) : ((c.toNat : Int) != (k.toNat : Int)) = true := by
  rw [bne_iff_ne]
  exact fun e => h (UInt8.toNat_inj.1 (by omega))
theorem nat_beq {c : UInt8} {k : UInt8} (h : c = k) : ((c.toNat : Int) != (k.toNat : Int)) = false := by rw [h, bne_eq_false_iff_eq]

set_option maxRecDepth 100000 in
set_option maxHeartbeats 16000000 in
theorem r11signs_any (s : ByteArray) (w : World) (hs : s.size ≤ 1000000) :
    Calls Tryd.prog 23 #[.string s] w fun e w' => ∃ v, e = .returned (.tuple #[v, .bool (sgA s.data.toList).isSome]) ∧ SignsOwn w' w.heap.size v ((sgA s.data.toList).getD []) ∧ Below w.heap.size w w' := by
  obtain ⟨R, hR⟩ : ∃ R, sgA s.data.toList = R := ⟨_, rfl⟩
  rw [hR]
  have h0 : Hid (SgSt s R 0 []) := Lib.hid ⟨Nat.le_refl _, by rw [List.drop_zero, hR]; cases R <;> simp⟩
  clear hR
  go_enter Tryd.func23, Tryd.ntmps23
  go_wp2
  go_loopw [4, 5] (fun lv iv wr => ∃ (i : Nat) (acc : List SignA), i ≤ s.size ∧ iv = .int .i64 i ∧ SignsOwn wr w.heap.size lv acc ∧ Hid (SgSt s R i acc) ∧ Below w.heap.size w wr) (fun _ iv _ => s.size - (intOf iv).toNat)
  case atStart => exact ⟨0, [], by omega, rfl, World.ownsRow_nil _ _ _ _, h0, Below.refl _ _⟩
  case round =>
    obtain ⟨i, acc, hi, rfl, hown, hst, hbr⟩ := hrel
    have hbz := hbr.size
    obtain ⟨k, hk⟩ : ∃ k, acc.length = k := ⟨_, rfl⟩
    have hk2 : k ≤ i := by rw [← hk]; exact hst.out.1
    obtain ⟨ao, cap, rfl⟩ := row_slice hown
    have Hown := Lib.hid hown
    have Hk := Lib.hid hk
    clear hown
    rw [hk]
    clear hk h0
    by_cases hlt : i < s.size
    · obtain ⟨c, hc⟩ : ∃ c, s[i] = c := ⟨_, rfl⟩
      by_cases hb : c = 32 ∨ c = 9
      · have Hn := Lib.hid (sgst_blank hst.out hlt (by rw [hc]; exact hb))
        have o2 : SignsOwn wr w.heap.size (.slice ao k cap) acc := by rw [← Hk.out]; exact Hown.out
        by_cases h32 : c = 32
        · have f1 : ((s[i].toNat : Int) == 32) = true := by rw [hc]; exact nat_eq h32
          clear hst hc hb h32 Hk Hown
          go_wp2
          go_roundw
          case rel => exact ⟨i + 1, acc, by omega, by go_num, o2, Hn, hbr⟩
          case measure => simp [intOf]; omega
        · have f1 : ((s[i].toNat : Int) == 32) = false := by rw [hc]; exact nat_ne h32
          have f2 : ((s[i].toNat : Int) == 9) = true := by
            rw [hc]
            rcases hb with h | h
            · exact absurd h h32
            · exact nat_eq h
          clear hst hc hb h32 Hk Hown
          go_wp2
          go_roundw
          case rel => exact ⟨i + 1, acc, by omega, by go_num, o2, Hn, hbr⟩
          case measure => simp [intOf]; omega
      · have f1 : ((s[i].toNat : Int) == 32) = false := by rw [hc]; exact nat_ne (fun e => hb (.inl e))
        have f2 : ((s[i].toNat : Int) == 9) = false := by rw [hc]; exact nat_ne (fun e => hb (.inr e))
        by_cases h40 : c = 40
        · have f3 : ((s[i].toNat : Int) == 40) = true := by rw [hc]; exact nat_eq h40
          obtain ⟨C, hC⟩ : ∃ C, cmtA (s.data.toList.drop (i + 1)) = C := ⟨_, rfl⟩
          have Hno := Lib.hid (fun (h : C = none) => sgst_bad hst.out hlt (by rw [hc]; exact h40) (hC.trans h))
          have Hyes := Lib.hid (fun j (hj : i ≤ j) (h : C = some (s.data.toList.drop j)) => sgst_cmt hst.out hlt (by rw [hc]; exact h40) hj (hC.trans h))
          have HC := Lib.hid hC
          clear hst hc hb h40 hC
          go_wp2
          go_loopw [5] (fun iv wx => ∃ j : Nat, i + 1 ≤ j ∧ j ≤ s.size ∧ iv = .int .i64 j ∧ Hid (cmtA (s.data.toList.drop j) = C) ∧ wx = wr) (fun iv _ => s.size - (intOf iv).toNat)
          case atStart => exact ⟨i + 1, by omega, by omega, by go_num, HC, rfl⟩
          case round =>
            obtain ⟨j, hj1, hj2, rfl, hcj, hwx⟩ := hrel
            subst hwx
            by_cases hjl : j < s.size
            · have hcj2 := hcj.out
              obtain ⟨d, hd⟩ : ∃ d, s[j] = d := ⟨_, rfl⟩
              rw [cons_at s j hjl, hd, cmtA] at hcj2
              by_cases h41 : d = 41
              · have g1 : ((s[j].toNat : Int) != 41) = false := by rw [hd]; exact nat_beq h41
                have g2 : ((s[j].toNat : Int) == 40) = false := by rw [hd, h41]; rfl
                have g3 : ((j : Int) == (s.size : Int)) = false := by rw [beq_eq_false_iff_ne]; omega
                rw [if_pos h41] at hcj2
                have Hn := Lib.hid (Hyes.out (j + 1) (by omega) hcj2.symm)
                clear hcj hcj2 hd h41 Hno Hyes HC
                have o2 : SignsOwn wr w.heap.size (.slice ao k cap) acc := by rw [← Hk.out]; exact Hown.out
                go_wp2
                go_roundw
                case rel => exact ⟨j + 1, acc, by omega, by go_num, o2, Hn, hbr⟩
                case measure => simp [intOf]; omega
              · have g1 : ((s[j].toNat : Int) != 41) = true := by rw [hd]; exact nat_bne h41
                rw [if_neg h41] at hcj2
                by_cases h40 : d = 40
                · have g2 : ((s[j].toNat : Int) != 40) = false := by rw [hd]; exact nat_beq h40
                  have g3 : ((s[j].toNat : Int) == 40) = true := by rw [hd]; exact nat_eq h40
                  have g4 : ((j : Int) == (s.size : Int)) = false := by rw [beq_eq_false_iff_ne]; omega
                  rw [if_pos h40] at hcj2
                  have hRn := Hno.out hcj2.symm
                  subst hRn
                  clear hcj hcj2 hd h41 h40 Hno Hyes HC
                  go_wp2
                  go_ret2
                  exact ⟨_, rfl, World.ownsRow_nil _ _ _ _, hbr⟩
                · have g2 : ((s[j].toNat : Int) != 40) = true := by rw [hd]; exact nat_bne h40
                  rw [if_neg h40] at hcj2
                  have Hn := Lib.hid hcj2
                  clear hcj hcj2 hd h41 h40 Hno Hyes HC
                  go_wp2
                  go_roundw
                  case rel => exact ⟨j + 1, by omega, by omega, by go_num, Hn, by first | rfl | trivial⟩
                  case measure => simp [intOf]; omega
            · have g4 : ((j : Int) == (s.size : Int)) = true := by rw [beq_iff_eq]; omega
              have hcj2 := hcj.out
              rw [List.drop_of_length_le (by show s.size ≤ j; omega), cmtA] at hcj2
              have hRn := Hno.out hcj2.symm
              subst hRn
              clear hcj hcj2 Hno Hyes HC
              go_wp2
              go_ret2
              exact ⟨_, rfl, World.ownsRow_nil _ _ _ _, hbr⟩
        · have f3 : ((s[i].toNat : Int) == 40) = false := by rw [hc]; exact nat_ne h40
          by_cases hm : markA c
          · have Hn := Lib.hid (sgst_mark hst.out hlt (by rw [hc]; exact hm))
            have f4 : ((s[i].toNat : Int) == 44) = true ∨ (((s[i].toNat : Int) == 44) = false ∧ ((s[i].toNat : Int) == 60) = true) ∨ (((s[i].toNat : Int) == 44) = false ∧ ((s[i].toNat : Int) == 60) = false ∧ ((s[i].toNat : Int) == 62) = true) := by
              rw [hc]
              rcases hm with rfl | rfl | rfl
              · exact .inl rfl
              · exact .inr (.inl ⟨rfl, rfl⟩)
              · exact .inr (.inr ⟨rfl, rfl, rfl⟩)
            rw [hc] at Hn
            have hcn : (s[i].toNat : Int) = (c.toNat : Int) := by rw [hc]
            have HC := Lib.hid hcn
            have hkb : k ≤ 1000000 := by omega
            clear hst hb h40 hm hcn
            rcases f4 with f4 | ⟨f4, f5⟩ | ⟨f4, f5, f6⟩
            all_goals
              clear hc
              obtain ⟨wa, hwa⟩ : ∃ wa, wr.alloc (.cells #[.int .u8 (s[i].toNat : Int), .string ⟨#[]⟩] 65) = wa := ⟨_, rfl⟩
              have ha : Below wr.heap.size wr wa := by rw [← hwa]; exact (Below.refl _ _).alloc (Nat.le_refl _) _
              have hoa : SignsOwn wa w.heap.size (.slice ao k cap) acc := by
                rw [← Hk.out]
                exact ownsRow_belowA Hown.out ha
              have hca : wa.cell? ⟨wr.heap.size, 0, none⟩ = some (.int .u8 (((c, []) : SignA).1.toNat : Int)) ∧ wa.cell? ⟨wr.heap.size, 1, none⟩ = some (.string (textQ ((c, []) : SignA).2)) := by
                have h9 : wa.heap[wr.heap.size]? = some (.cells #[.int .u8 (s[i].toNat : Int), .string ⟨#[]⟩] 65 (0, 0)) := by rw [← hwa]; exact heap_alloc_new wr _
                exact ⟨(Lib.cell_of_heap h9 0).trans (by rw [HC.out]; rfl), (Lib.cell_of_heap h9 1).trans rfl⟩
              have Hoa := Lib.hid hoa
              have Hba := Lib.hid (hbr.trans (ha.mono hbr.size))
              have Hca := Lib.hid hca
              clear ha hoa hca Hown
              go_wp2_with (at_builtin; refine append_signA rfl _ _ rfl w.heap.size (.slice ao k cap) acc ((c, []) : SignA) rfl Hoa.out Hba.out.size (by rw [Hk.out]; omega) wr.heap.size 1 rfl Hca.out.1 Hca.out.2 ?_)
              intro v' w6 hown6 hgrow
              have b6 : Below w.heap.size w w6 := Hba.out.grown hgrow Hba.out.size (fun q hq => (Hoa.out.lt q hq).1)
              have e9 : (acc ++ [((c, []) : SignA)]).length = acc.length + 1 := by simp
              obtain ⟨ao6, cap6, rfl⟩ := row_slice hown6
              have o6 : SignsOwn w6 w.heap.size (.slice ao6 (acc.length + 1) cap6) (acc ++ [((c, []) : SignA)]) := by
                rw [← e9]
                exact hown6
              have O6 := Lib.hid o6
              have O6a := Lib.hid hown6
              clear hown6 hgrow Hoa Hba Hca o6 e9
              go_wp2
              go_roundw
              case rel => exact ⟨i + 1, acc ++ [(c, [])], by omega, by go_num, by first | exact O6.out | exact O6a.out, Hn, b6⟩
              case measure => simp [intOf]; omega
          · have f4 : ((s[i].toNat : Int) == 44) = false := by rw [hc]; exact nat_ne (fun e => hm (.inl e))
            have f5 : ((s[i].toNat : Int) == 60) = false := by rw [hc]; exact nat_ne (fun e => hm (.inr (.inl e)))
            have f6 : ((s[i].toNat : Int) == 62) = false := by rw [hc]; exact nat_ne (fun e => hm (.inr (.inr e)))
            by_cases h34 : c = 34
            · have f7 : ((s[i].toNat : Int) == 34) = true := by rw [hc]; exact nat_eq h34
              obtain ⟨C, hC⟩ : ∃ C, hearA false [] (s.data.toList.drop (i + 1)) = C := ⟨_, rfl⟩
              have Hno := Lib.hid (fun (h : C = none) => sgst_qbad hst.out hlt (by rw [hc]; exact h34) (hC.trans h))
              have Hyes := Lib.hid (fun j x (hj : i < j) (h : C = some (x, s.data.toList.drop j)) => sgst_quote hst.out hlt (by rw [hc]; exact h34) hj (hC.trans h))
              have HC := Lib.hid hC
              clear hst hc hb h40 hC hm h34
              obtain ⟨w1, hw1⟩ : ∃ w1, w1 = wr := ⟨_, rfl⟩
              subst hw1
              go_wp2
              go_loopw [5, 7] (fun iv bv wx => ∃ (j : Nat) (b : TextA), i + 1 ≤ j ∧ j ≤ s.size ∧ iv = .int .i64 j ∧ BytesOwn wx w1.heap.size bv b ∧ Hid (hearA false b (s.data.toList.drop j) = C ∧ b.length ≤ j) ∧ Below w1.heap.size w1 wx) (fun iv _ _ => s.size - (intOf iv).toNat)
              case atStart => exact ⟨i + 1, [], by omega, by omega, by go_num, World.ownsRow_nil _ _ _ _, Lib.hid ⟨HC.out, by simp⟩, Below.refl _ _⟩
              case round =>
                obtain ⟨j, b, hj1, hj2, rfl, hob, hst2, hbx⟩ := hrel
                obtain ⟨hh, hbl⟩ := hst2.out
                obtain ⟨kb, hkb⟩ : ∃ kb, b.length = kb := ⟨_, rfl⟩
                have hkb2 : kb ≤ 1000000 := by omega
                obtain ⟨aob, capb, rfl⟩ := row_slice hob
                have Hob := Lib.hid hob
                have Hkb := Lib.hid hkb
                clear hob
                rw [hkb]
                clear hkb HC
                by_cases hjl : j < s.size
                · obtain ⟨d, hd⟩ : ∃ d, s[j] = d := ⟨_, rfl⟩
                  rw [cons_at s j hjl, hd] at hh
                  by_cases h34 : d = 34
                  · have g1 : ((s[j].toNat : Int) != 34) = false := by rw [hd]; exact nat_beq h34
                    have hh2 : some (b, s.data.toList.drop (j + 1)) = C := by
                      rw [← hh, h34]
                      rfl
                    have Hn := Lib.hid (Hyes.out (j + 1) b (by omega) hh2.symm)
                    have hbb := hbr.trans (hbx.mono hbz)
                    obtain ⟨X, hX⟩ : ∃ X, textQ b = X := ⟨_, rfl⟩
                    have hcv : (convert 49 9 (.slice aob kb capb)).run Tryd.prog wr = .ok (.string X) wr := by
                      rw [← hX, ← Hkb.out]
                      exact conv_own4 Hob.out
                    have ho2 := ownsRow_belowA Hown.out hbx
                    have hkk : k ≤ 1000000 := by omega
                    clear hh hh2 hst2 hd h34 Hno Hyes hbl Hob Hown
                    obtain ⟨wa, hwa⟩ : ∃ wa, wr.alloc (.cells #[.int .u8 113, .string X] 65) = wa := ⟨_, rfl⟩
                    have ha : Below wr.heap.size wr wa := by rw [← hwa]; exact (Below.refl _ _).alloc (Nat.le_refl _) _
                    have hoa : SignsOwn wa w.heap.size (.slice ao k cap) acc := by
                      rw [← Hk.out]
                      exact ownsRow_belowA ho2 ha
                    have hca : wa.cell? ⟨wr.heap.size, 0, none⟩ = some (.int .u8 (((113, b) : SignA).1.toNat : Int)) ∧ wa.cell? ⟨wr.heap.size, 1, none⟩ = some (.string (textQ ((113, b) : SignA).2)) := by
                      have h9 : wa.heap[wr.heap.size]? = some (.cells #[.int .u8 113, .string X] 65 (0, 0)) := by rw [← hwa]; exact heap_alloc_new wr _
                      exact ⟨(Lib.cell_of_heap h9 0).trans rfl, (Lib.cell_of_heap h9 1).trans (by rw [hX]; rfl)⟩
                    have Hoa := Lib.hid hoa
                    have Hba := Lib.hid (hbb.trans (ha.mono hbb.size))
                    have Hca := Lib.hid hca
                    clear ha hoa hca ho2 hX
                    go_wp2_with (at_builtin; refine append_signA rfl _ _ rfl w.heap.size (.slice ao k cap) acc ((113, b) : SignA) rfl Hoa.out Hba.out.size (by rw [Hk.out]; omega) wr.heap.size 1 rfl Hca.out.1 Hca.out.2 ?_)
                    intro v' w6 hown6 hgrow
                    have b6 : Below w.heap.size w w6 := Hba.out.grown hgrow Hba.out.size (fun q hq => (Hoa.out.lt q hq).1)
                    have e9 : (acc ++ [((113, b) : SignA)]).length = acc.length + 1 := by simp
                    obtain ⟨ao6, cap6, rfl⟩ := row_slice hown6
                    have o6 : SignsOwn w6 w.heap.size (.slice ao6 (acc.length + 1) cap6) (acc ++ [((113, b) : SignA)]) := by
                      rw [← e9]
                      exact hown6
                    have O6 := Lib.hid o6
                    have O6a := Lib.hid hown6
                    clear hown6 hgrow Hoa Hba Hca o6 e9
                    go_wp2
                    go_roundw
                    case rel => exact ⟨j + 1, acc ++ [((113, b) : SignA)], by omega, by go_num, by first | exact O6.out | exact O6a.out, Hn, b6⟩
                    case measure => simp [intOf]; omega
                  · have g1 : ((s[j].toNat : Int) != 34) = true := by rw [hd]; exact nat_bne h34
                    by_cases h92 : d = 92
                    · have g2 : ((s[j].toNat : Int) == 92) = true := by rw [hd]; exact nat_eq h92
                      by_cases hj3 : j + 1 < s.size
                      · have g3 : decide ((j : Int) + 1 < (s.size : Int)) = true := decide_eq_true (by omega)
                        obtain ⟨e, he⟩ : ∃ e, s[j + 1] = e := ⟨_, rfl⟩
                        rw [h92, cons_at s (j + 1) hj3, he] at hh
                        have Hn : Hid (hearA false (b ++ [e]) (s.data.toList.drop (j + 2)) = C ∧ (b ++ [e]).length ≤ j + 2) := Lib.hid ⟨hh, by simp; omega⟩
                        have hen : (s[j + 1].toNat : Int) = (e.toNat : Int) := by rw [he]
                        have HE := Lib.hid hen
                        clear hh hst2 hd h34 h92 he hen hbl
                        obtain ⟨wa, hwa⟩ : ∃ wa, wr.alloc (.cells #[.int .u8 (s[j + 1].toNat : Int)] 5) = wa := ⟨_, rfl⟩
                        have ha : Below wr.heap.size wr wa := by rw [← hwa]; exact (Below.refl _ _).alloc (Nat.le_refl _) _
                        have hoa : BytesOwn wa w1.heap.size (.slice aob kb capb) b := by
                          rw [← Hkb.out]
                          exact ownsRow_belowA Hob.out ha
                        have hca : wa.cell? ⟨wr.heap.size, 0, none⟩ = some (.int .u8 (e.toNat : Int)) := by
                          have h9 : wa.heap[wr.heap.size]? = some (.cells #[.int .u8 (s[j + 1].toNat : Int)] 5 (0, 0)) := by rw [← hwa]; exact heap_alloc_new wr _
                          exact (Lib.cell_of_heap h9 0).trans (by rw [HE.out]; rfl)
                        have Hoa := Lib.hid hoa
                        have Hba := Lib.hid (hbx.trans (ha.mono hbx.size))
                        have Hca := Lib.hid hca
                        clear ha hoa hca Hob hbx 
                        go_wp2_with (at_builtin; refine append_byteA rfl _ _ rfl w1.heap.size (.slice aob kb capb) b e rfl Hoa.out Hba.out.size (by rw [Hkb.out]; omega) wr.heap.size 1 rfl Hca.out ?_)
                        intro v' w6 hown6 hgrow
                        have b6 : Below w1.heap.size w1 w6 := Hba.out.grown hgrow Hba.out.size (fun q hq => (Hoa.out.lt q hq).1)
                        have e9 : (b ++ [e]).length = b.length + 1 := by simp
                        obtain ⟨ao6, cap6, rfl⟩ := row_slice hown6
                        have o6 : BytesOwn w6 w1.heap.size (.slice ao6 (b.length + 1) cap6) (b ++ [e]) := by
                          rw [← e9]
                          exact hown6
                        have O6 := Lib.hid o6
                        have O6a := Lib.hid hown6
                        clear hown6 hgrow Hoa Hba Hca o6 e9
                        go_wp2
                        go_roundw
                        case rel => exact ⟨j + 2, b ++ [e], by omega, by omega, by go_num, by first | exact O6.out | exact O6a.out, Hn, b6⟩
                        case measure => simp [intOf]; omega
                      · have g3 : decide ((j : Int) + 1 < (s.size : Int)) = false := decide_eq_false (by omega)
                        have Hn : Hid (hearA false (b ++ [d]) (s.data.toList.drop (j + 1)) = C ∧ (b ++ [d]).length ≤ j + 1) := Lib.hid ⟨by
                          rw [← hh, List.drop_of_length_le (by show s.size ≤ j + 1; omega), h92]
                          rfl, by simp; omega⟩
                        have hen : (s[j].toNat : Int) = (d.toNat : Int) := by rw [hd]
                        have HE := Lib.hid hen
                        clear hh hst2 hd h34 h92 hen hbl
                        obtain ⟨wa, hwa⟩ : ∃ wa, wr.alloc (.cells #[.int .u8 (s[j].toNat : Int)] 5) = wa := ⟨_, rfl⟩
                        have ha : Below wr.heap.size wr wa := by rw [← hwa]; exact (Below.refl _ _).alloc (Nat.le_refl _) _
                        have hoa : BytesOwn wa w1.heap.size (.slice aob kb capb) b := by
                          rw [← Hkb.out]
                          exact ownsRow_belowA Hob.out ha
                        have hca : wa.cell? ⟨wr.heap.size, 0, none⟩ = some (.int .u8 (d.toNat : Int)) := by
                          have h9 : wa.heap[wr.heap.size]? = some (.cells #[.int .u8 (s[j].toNat : Int)] 5 (0, 0)) := by rw [← hwa]; exact heap_alloc_new wr _
                          exact (Lib.cell_of_heap h9 0).trans (by rw [HE.out]; rfl)
                        have Hoa := Lib.hid hoa
                        have Hba := Lib.hid (hbx.trans (ha.mono hbx.size))
                        have Hca := Lib.hid hca
                        clear ha hoa hca Hob hbx 
                        go_wp2_with (at_builtin; refine append_byteA rfl _ _ rfl w1.heap.size (.slice aob kb capb) b d rfl Hoa.out Hba.out.size (by rw [Hkb.out]; omega) wr.heap.size 1 rfl Hca.out ?_)
                        intro v' w6 hown6 hgrow
                        have b6 : Below w1.heap.size w1 w6 := Hba.out.grown hgrow Hba.out.size (fun q hq => (Hoa.out.lt q hq).1)
                        have e9 : (b ++ [d]).length = b.length + 1 := by simp
                        obtain ⟨ao6, cap6, rfl⟩ := row_slice hown6
                        have o6 : BytesOwn w6 w1.heap.size (.slice ao6 (b.length + 1) cap6) (b ++ [d]) := by
                          rw [← e9]
                          exact hown6
                        have O6 := Lib.hid o6
                        have O6a := Lib.hid hown6
                        clear hown6 hgrow Hoa Hba Hca o6 e9
                        go_wp2
                        go_roundw
                        case rel => exact ⟨j + 1, b ++ [d], by omega, by omega, by go_num, by first | exact O6.out | exact O6a.out, Hn, b6⟩
                        case measure => simp [intOf]; omega
                    · have g2 : ((s[j].toNat : Int) == 92) = false := by rw [hd]; exact nat_ne h92
                      have Hn : Hid (hearA false (b ++ [d]) (s.data.toList.drop (j + 1)) = C ∧ (b ++ [d]).length ≤ j + 1) := Lib.hid ⟨by
                        rw [← hh, hearA, if_neg h92, if_neg h34], by simp; omega⟩
                      have hen : (s[j].toNat : Int) = (d.toNat : Int) := by rw [hd]
                      have HE := Lib.hid hen
                      clear hh hst2 hd h34 h92 hen hbl
                      obtain ⟨wa, hwa⟩ : ∃ wa, wr.alloc (.cells #[.int .u8 (s[j].toNat : Int)] 5) = wa := ⟨_, rfl⟩
                      have ha : Below wr.heap.size wr wa := by rw [← hwa]; exact (Below.refl _ _).alloc (Nat.le_refl _) _
                      have hoa : BytesOwn wa w1.heap.size (.slice aob kb capb) b := by
                        rw [← Hkb.out]
                        exact ownsRow_belowA Hob.out ha
                      have hca : wa.cell? ⟨wr.heap.size, 0, none⟩ = some (.int .u8 (d.toNat : Int)) := by
                        have h9 : wa.heap[wr.heap.size]? = some (.cells #[.int .u8 (s[j].toNat : Int)] 5 (0, 0)) := by rw [← hwa]; exact heap_alloc_new wr _
                        exact (Lib.cell_of_heap h9 0).trans (by rw [HE.out]; rfl)
                      have Hoa := Lib.hid hoa
                      have Hba := Lib.hid (hbx.trans (ha.mono hbx.size))
                      have Hca := Lib.hid hca
                      clear ha hoa hca Hob hbx 
                      go_wp2_with (at_builtin; refine append_byteA rfl _ _ rfl w1.heap.size (.slice aob kb capb) b d rfl Hoa.out Hba.out.size (by rw [Hkb.out]; omega) wr.heap.size 1 rfl Hca.out ?_)
                      intro v' w6 hown6 hgrow
                      have b6 : Below w1.heap.size w1 w6 := Hba.out.grown hgrow Hba.out.size (fun q hq => (Hoa.out.lt q hq).1)
                      have e9 : (b ++ [d]).length = b.length + 1 := by simp
                      obtain ⟨ao6, cap6, rfl⟩ := row_slice hown6
                      have o6 : BytesOwn w6 w1.heap.size (.slice ao6 (b.length + 1) cap6) (b ++ [d]) := by
                        rw [← e9]
                        exact hown6
                      have O6 := Lib.hid o6
                      have O6a := Lib.hid hown6
                      clear hown6 hgrow Hoa Hba Hca o6 e9
                      go_wp2
                      go_roundw
                      case rel => exact ⟨j + 1, b ++ [d], by omega, by omega, by go_num, by first | exact O6.out | exact O6a.out, Hn, b6⟩
                      case measure => simp [intOf]; omega
                · rw [List.drop_of_length_le (by show s.size ≤ j; omega), hearA] at hh
                  have hRn := Hno.out hh.symm
                  have hbb := hbr.trans (hbx.mono hbz)
                  subst hRn
                  clear hh hst2 Hno Hyes hbl Hob Hown
                  go_wp2
                  go_ret2
                  exact ⟨_, rfl, World.ownsRow_nil _ _ _ _, hbb⟩
            · have f7 : ((s[i].toNat : Int) == 34) = false := by rw [hc]; exact nat_ne h34
              have Hno := Lib.hid (fun (h : rByte s[i] = false) => sgst_no hst.out hlt (by rw [hc]; exact hb) (by rw [hc]; exact h40) (by rw [hc]; exact hm) (by rw [hc]; exact h34) h)
              have Hyes := Lib.hid (fun j (hj : i < j) (hjs : j ≤ s.size) (hr : ∀ k (h : k < s.size), i ≤ k → k < j → rByte s[k] = true) (he : ∀ h : j < s.size, rByte s[j] = false) => sgst_run hst.out hlt hj hjs hr he)
              clear hst hc hb h40 hm h34
              go_wp2
              go_loopw [5] (fun iv wx => ∃ j : Nat, i ≤ j ∧ j ≤ s.size ∧ iv = .int .i64 j ∧ Hid (∀ k (h : k < s.size), i ≤ k → k < j → rByte s[k] = true) ∧ wx = wr) (fun iv _ => s.size - (intOf iv).toNat)
              case atStart => exact ⟨i, by omega, by omega, rfl, Lib.hid (fun k _ h1 h2 => by omega), rfl⟩
              case round =>
                obtain ⟨j, hj1, hj2, rfl, hrun, hwx⟩ := hrel
                subst hwx
                obtain ⟨X, hX⟩ : ∃ X, s.extract i j = X := ⟨_, rfl⟩
                have eX : textQ ((s.data.toList.drop i).take (j - i)) = X := by rw [← hX, cut_text]
                have c0 : (i : Int) ≤ (j : Int) := by omega
                have c1 : (j : Int) ≤ (s.size : Int) := by omega
                have hkk : k ≤ 1000000 := by omega
                have HX := Lib.hid eX
                clear eX
                by_cases hjl : j < s.size
                · have hl := fun W => r11letter_any s[j] W
                  have Hnx : Hid (rByte s[j] = true → ∀ k (h : k < s.size), i ≤ k → k < j + 1 → rByte s[k] = true) := Lib.hid fun h q hq h1 h2 => by
                    rcases Nat.lt_or_ge q j with h3 | h3
                    · exact hrun.out q hq h1 h3
                    · obtain rfl : q = j := by omega
                      exact h
                  cases hat : atomC s[j] with
                  | true =>
                    simp only [hat] at hl
                    have Hn := Lib.hid (Hnx.out (atom_r hat))
                    clear hat Hnx hrun Hno Hyes
                    go_wp2_with (go_at_call 31; refine (hl _).mono ?_; rintro e w1 ⟨rfl, h9⟩; obtain rfl := h9.symm)
                    go_roundw
                    case rel => exact ⟨j + 1, by omega, by omega, by go_num, Hn, by first | rfl | trivial⟩
                    case measure => simp [intOf]; omega
                  | false =>
                    simp only [hat] at hl
                    obtain ⟨d, hd⟩ : ∃ d, s[j] = d := ⟨_, rfl⟩
                    by_cases h46 : d = 46
                    · have g1 : ((s[j].toNat : Int) == 46) = true := by rw [hd]; exact nat_eq h46
                      have Hn := Lib.hid (Hnx.out (by rw [hd, h46]; decide))
                      clear hat Hnx hrun Hno Hyes hd h46
                      go_wp2_with (go_at_call 31; refine (hl _).mono ?_; rintro e w1 ⟨rfl, h9⟩; obtain rfl := h9.symm)
                      go_roundw
                      case rel => exact ⟨j + 1, by omega, by omega, by go_num, Hn, by first | rfl | trivial⟩
                      case measure => simp [intOf]; omega
                    · have g1 : ((s[j].toNat : Int) == 46) = false := by rw [hd]; exact nat_ne h46
                      by_cases h64 : d = 64
                      · have g2 : ((s[j].toNat : Int) == 64) = true := by rw [hd]; exact nat_eq h64
                        have Hn := Lib.hid (Hnx.out (by rw [hd, h64]; decide))
                        clear hat Hnx hrun Hno Hyes hd h46 h64
                        go_wp2_with (go_at_call 31; refine (hl _).mono ?_; rintro e w1 ⟨rfl, h9⟩; obtain rfl := h9.symm)
                        go_roundw
                        case rel => exact ⟨j + 1, by omega, by omega, by go_num, Hn, by first | rfl | trivial⟩
                        case measure => simp [intOf]; omega
                      · have g2 : ((s[j].toNat : Int) == 64) = false := by rw [hd]; exact nat_ne h64
                        have hrj : rByte s[j] = false := by
                          unfold rByte
                          rw [hat, hd, beq_eq_false_iff_ne.2 h46, beq_eq_false_iff_ne.2 h64]
                          rfl
                        by_cases hji : j = i
                        · have g3 : ((j : Int) == (i : Int)) = true := by rw [beq_iff_eq]; omega
                          have hRn : R = none := Hno.out (by subst hji; exact hrj)
                          subst hRn
                          clear hat Hnx hrun Hno Hyes hd h46 h64 hji hrj
                          go_wp2_with (go_at_call 31; refine (hl _).mono ?_; rintro e w1 ⟨rfl, h9⟩; obtain rfl := h9.symm)
                          go_ret2
                          exact ⟨_, rfl, World.ownsRow_nil _ _ _ _, hbr⟩
                        · have g3 : ((j : Int) == (i : Int)) = false := by rw [beq_eq_false_iff_ne]; omega
                          have Hn := Lib.hid (Hyes.out j (by omega) hj2 hrun.out (fun _ => hrj))
                          have hlt2 : i < j := by omega
                          clear hat Hnx hrun Hno Hyes hd h46 h64 hji hrj
                          obtain ⟨Q, hQ⟩ : ∃ Q, (s.data.toList.drop i).take (j - i) = Q := ⟨_, rfl⟩
                          rw [hQ] at HX Hn
                          clear hQ
                          go_wp2_with fail
                          refine (hl _).mono ?_
                          rintro e w1 ⟨rfl, h9⟩
                          obtain rfl := h9.symm
                          clear h9 hl
                          obtain ⟨wa, hwa⟩ : ∃ wa, wr.alloc (.cells #[.int .u8 114, .string X] 65) = wa := ⟨_, rfl⟩
                          have ha : Below wr.heap.size wr wa := by rw [← hwa]; exact (Below.refl _ _).alloc (Nat.le_refl _) _
                          have hoa : SignsOwn wa w.heap.size (.slice ao k cap) acc := by
                            rw [← Hk.out]
                            exact ownsRow_belowA Hown.out ha
                          have hca : wa.cell? ⟨wr.heap.size, 0, none⟩ = some (.int .u8 (((114, Q) : SignA).1.toNat : Int)) ∧ wa.cell? ⟨wr.heap.size, 1, none⟩ = some (.string (textQ ((114, Q) : SignA).2)) := by
                            have h9 : wa.heap[wr.heap.size]? = some (.cells #[.int .u8 114, .string X] 65 (0, 0)) := by rw [← hwa]; exact heap_alloc_new wr _
                            exact ⟨(Lib.cell_of_heap h9 0).trans rfl, (Lib.cell_of_heap h9 1).trans (by rw [HX.out]; rfl)⟩
                          have Hoa := Lib.hid hoa
                          have Hba := Lib.hid (hbr.trans (ha.mono hbr.size))
                          have Hca := Lib.hid hca
                          clear ha hoa hca Hown
                          go_wp2_with (at_builtin; refine append_signA rfl _ _ rfl w.heap.size (.slice ao k cap) acc ((114, Q) : SignA) rfl Hoa.out Hba.out.size (by rw [Hk.out]; omega) wr.heap.size 1 rfl Hca.out.1 Hca.out.2 ?_)
                          intro v' w6 hown6 hgrow
                          have b6 : Below w.heap.size w w6 := Hba.out.grown hgrow Hba.out.size (fun q hq => (Hoa.out.lt q hq).1)
                          have e9 : (acc ++ [((114, Q) : SignA)]).length = acc.length + 1 := by simp
                          obtain ⟨ao6, cap6, rfl⟩ := row_slice hown6
                          have o6 : SignsOwn w6 w.heap.size (.slice ao6 (acc.length + 1) cap6) (acc ++ [((114, Q) : SignA)]) := by
                            rw [← e9]
                            exact hown6
                          have O6 := Lib.hid o6
                          have O6a := Lib.hid hown6
                          clear hown6 hgrow Hoa Hba Hca o6 e9
                          go_wp2
                          go_roundw
                          case rel => exact ⟨j, acc ++ [((114, Q) : SignA)], by omega, by go_num, by first | exact O6.out | exact O6a.out, Hn, b6⟩
                          case measure => simp [intOf]; omega
                · have g3 : ((j : Int) == (i : Int)) = false := by rw [beq_eq_false_iff_ne]; omega
                  have Hn := Lib.hid (Hyes.out j (by omega) hj2 hrun.out (fun h => absurd h hjl))
                  have hlt2 : i < j := by omega
                  clear hrun Hno Hyes
                  obtain ⟨Q, hQ⟩ : ∃ Q, (s.data.toList.drop i).take (j - i) = Q := ⟨_, rfl⟩
                  rw [hQ] at HX Hn
                  clear hQ
                  obtain ⟨wa, hwa⟩ : ∃ wa, wr.alloc (.cells #[.int .u8 114, .string X] 65) = wa := ⟨_, rfl⟩
                  have ha : Below wr.heap.size wr wa := by rw [← hwa]; exact (Below.refl _ _).alloc (Nat.le_refl _) _
                  have hoa : SignsOwn wa w.heap.size (.slice ao k cap) acc := by
                    rw [← Hk.out]
                    exact ownsRow_belowA Hown.out ha
                  have hca : wa.cell? ⟨wr.heap.size, 0, none⟩ = some (.int .u8 (((114, Q) : SignA).1.toNat : Int)) ∧ wa.cell? ⟨wr.heap.size, 1, none⟩ = some (.string (textQ ((114, Q) : SignA).2)) := by
                    have h9 : wa.heap[wr.heap.size]? = some (.cells #[.int .u8 114, .string X] 65 (0, 0)) := by rw [← hwa]; exact heap_alloc_new wr _
                    exact ⟨(Lib.cell_of_heap h9 0).trans rfl, (Lib.cell_of_heap h9 1).trans (by rw [HX.out]; rfl)⟩
                  have Hoa := Lib.hid hoa
                  have Hba := Lib.hid (hbr.trans (ha.mono hbr.size))
                  have Hca := Lib.hid hca
                  clear ha hoa hca Hown
                  go_wp2_with (at_builtin; refine append_signA rfl _ _ rfl w.heap.size (.slice ao k cap) acc ((114, Q) : SignA) rfl Hoa.out Hba.out.size (by rw [Hk.out]; omega) wr.heap.size 1 rfl Hca.out.1 Hca.out.2 ?_)
                  intro v' w6 hown6 hgrow
                  have b6 : Below w.heap.size w w6 := Hba.out.grown hgrow Hba.out.size (fun q hq => (Hoa.out.lt q hq).1)
                  have e9 : (acc ++ [((114, Q) : SignA)]).length = acc.length + 1 := by simp
                  obtain ⟨ao6, cap6, rfl⟩ := row_slice hown6
                  have o6 : SignsOwn w6 w.heap.size (.slice ao6 (acc.length + 1) cap6) (acc ++ [((114, Q) : SignA)]) := by
                    rw [← e9]
                    exact hown6
                  have O6 := Lib.hid o6
                  have O6a := Lib.hid hown6
                  clear hown6 hgrow Hoa Hba Hca o6 e9
                  go_wp2
                  go_roundw
                  case rel => exact ⟨j, acc ++ [((114, Q) : SignA)], by omega, by go_num, by first | exact O6.out | exact O6a.out, Hn, b6⟩
                  case measure => simp [intOf]; omega
    · have hRs := sgst_end hst.out hlt
      subst hRs
      have o2 : SignsOwn wr w.heap.size (.slice ao k cap) acc := by rw [← Hk.out]; exact Hown.out
      clear hst Hk Hown
      go_wp2
      go_ret2
      exact ⟨_, rfl, o2, hbr⟩
end Go.Proofs.YtemkikpdmihmpaaDoor
