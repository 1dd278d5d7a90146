/-
  The document's answer of layer 12: skip and word.
-/
import Derived.Test.YtidlpdiephlkhaaGreatDoorT36
import Derived.Test.YtidlpdiephlkhaaGreatDoorT03
namespace Go.Proofs.YtidlpdiephlkhaaGreatDoor
open Go.RowKit

/-- Bytes, as a row of somebody's own. -/
abbrev BytesC (w : World) (B : Nat) (v : Value) (l : TextA) : Prop := w.ownsRow B 5 1 v l.length (Lib.byteCells l)
theorem append_byteC {w : World} {ops : Array Oper} {rest : List Oper} {o : Oper} {a : Act} {Q : Exit → Act → World → Prop} (hgd : o.guard = none) (s x : Operand)
    (ho : o.op = .call { callee := .builtin .append, args := #[s, x], argTypes := #[67, 67] }) (B : Nat) (v : Value) (l : TextA) (p : UInt8) (hs : a.eval s = v) (hown : BytesC w B v l) (hB : B ≤ w.heap.size) (hl : l.length ≤ 100000000)
    (b c : Nat) (hx : a.eval x = .slice (some ⟨b, 0, none⟩) 1 c) (h0 : w.cell? ⟨b, 0, none⟩ = some (.int .u8 (p.toNat : Int)))
    (h : ∀ v' w', BytesC w' B v' (l ++ [p]) → w.grownBy w' v.ownBlock → wpList Tryz.prog ops Q rest (a.put o.dst v') w') : wpList Tryz.prog ops Q (o :: rest) a w := by
  obtain ⟨i0, hi, hz0, hz1, hz2⟩ := info_parts infoB4
  refine wpList_append_own w hgd s x 67 ho B 5 i0 (.int .u8 0) 1 1 Tryz.underlying67 hi hz0 hz1 hz2 rfl (by decide) v l.length _ hs hown ⟨b, 0, none⟩ 1 c [.int .u8 (p.toNat : Int)] hx rfl (fun j u hj => ?_) (fun u hu => ?_) (by unfold maxLen; omega) (by omega) hB (fun v' w' q1 q2 _ => ?_)
  · rw [Addr.add_lit, Nat.zero_add]
    match j, hj with
    | 0, hj => cases hj; exact h0
    | j + 1, hj => cases hj
  · rw [List.mem_singleton.1 hu]
    rfl
  · refine h v' w' ?_ q2
    unfold BytesC
    rw [List.length_append, Lib.byteCells_append]
    exact q1
theorem bytes_slice {w : World} {B : Nat} {v : Value} {l : TextA} (h : BytesC w B v l) : ∃ ao cap, v = .slice ao l.length cap := by
  rcases h.2 with ⟨rfl, h0⟩ | ⟨g, cap, cur, rfl, _⟩
  · exact ⟨none, 0, by rw [h0]⟩
  · exact ⟨_, _, rfl⟩
theorem bytes_below {w w' : World} {B : Nat} {v : Value} {l : TextA} (h : BytesC w B v l) (hb : Below w.heap.size w w') : BytesC w' B v l := ownsRow_below4 h hb
theorem bytes_nil (w : World) (B : Nat) : BytesC w B (.slice none 0 0) [] := World.ownsRow_nil _ _ _ _

set_option maxRecDepth 100000 in
set_option maxHeartbeats 2000000 in
theorem r12skip_any (s : ByteArray) (i : Nat) (a : Int) (w : World) (ha : a = i) (hi : i ≤ s.size) (hs : s.size ≤ 1000000000) :
    Calls Tryz.prog 91 #[.string s, .int .i64 a] w fun e w' => (∃ j : Nat, e = .returned (.int .i64 j) ∧ i ≤ j ∧ j ≤ s.size ∧ Hid (s.data.toList.drop j = (s.data.toList.drop i).dropWhile gapC)) ∧ w' = w := by
  subst ha
  have hl : s.data.toList.length = s.size := rfl
  go_enter Tryz.func91, Tryz.ntmps91
  go_wp2
  go_loop [1] (fun iv => ∃ j : Nat, i ≤ j ∧ j ≤ s.size ∧ iv = .int .i64 j ∧ Hid ((s.data.toList.drop j).dropWhile gapC = (s.data.toList.drop i).dropWhile gapC)) (fun iv => s.size - (intOf iv).toNat)
  case atStart => exact ⟨i, Nat.le_refl _, hi, rfl, Lib.hid rfl⟩
  case round =>
    obtain ⟨j, hij, hj, rfl, hd⟩ := hrel
    by_cases hlt : j < s.size
    · have hd2 := hd.out
      rw [cons_atC s j hlt, List.dropWhile_cons] at hd2
      obtain ⟨c, hc⟩ : ∃ c, s[j] = c := ⟨_, rfl⟩
      rw [hc] at hd2
      have hcn : (s[j].toNat : Int) = c.toNat := by rw [hc]
      cases hg : gapC c with
      | true =>
        rw [hg, if_pos rfl] at hd2
        have Hn := Lib.hid hd2
        have f3 : ((s[j].toNat : Int) == 32) = true ∨ (((s[j].toNat : Int) == 32) = false ∧ ((s[j].toNat : Int) == 9) = true) := by
          rw [hcn]
          unfold gapC at hg
          rw [Bool.or_eq_true, beq_iff_eq, beq_iff_eq] at hg
          rcases hg with rfl | rfl
          · exact .inl rfl
          · exact .inr ⟨rfl, rfl⟩
        clear hd hd2 hc hcn hg
        rcases f3 with f1 | ⟨f1, f2⟩
        all_goals
          go_wp2
          go_round
          case rel => exact ⟨j + 1, by omega, by omega, by go_num, Hn⟩
          case measure => simp [intOf]; omega
      | false =>
        rw [hg, if_neg (by simp)] at hd2
        have Hn : Hid (s.data.toList.drop j = (s.data.toList.drop i).dropWhile gapC) := Lib.hid (by rw [← hd2, cons_atC s j hlt, hc])
        unfold gapC at hg
        rw [Bool.or_eq_false_iff, beq_eq_false_iff_ne, beq_eq_false_iff_ne] at hg
        have f1 : ((s[j].toNat : Int) == 32) = false := by
          rw [hcn, beq_eq_false_iff_ne]
          exact fun e => hg.1 (UInt8.toNat_inj.1 (by show c.toNat = 32; omega))
        have f2 : ((s[j].toNat : Int) == 9) = false := by
          rw [hcn, beq_eq_false_iff_ne]
          exact fun e => hg.2 (UInt8.toNat_inj.1 (by show c.toNat = 9; omega))
        clear hd hd2 hc hcn hg
        go_wp2
        go_ret
        exact ⟨⟨j, rfl, hij, hj, Hn⟩, rfl⟩
    · obtain rfl : j = s.size := by omega
      have hd2 := hd.out
      have hnil : s.data.toList.drop s.size = [] := List.drop_of_length_le (by rw [hl]; omega)
      have Hn : Hid (s.data.toList.drop s.size = (s.data.toList.drop i).dropWhile gapC) := Lib.hid (by rw [← hd2, hnil]; rfl)
      clear hd hd2 hnil
      go_wp2
      go_ret
      exact ⟨⟨s.size, rfl, hij, hj, Hn⟩, rfl⟩

theorem low_name (c : UInt8) : tokC (Lib.lowerB c) = inNameC c := by
  have h : ∀ n : Fin 256, tokC (Lib.lowerB (UInt8.ofNat n.val)) = inNameC (UInt8.ofNat n.val) := by decide +kernel
  have := h ⟨c.toNat, c.toNat_lt⟩
  rwa [UInt8.ofNat_toNat] at this

set_option maxRecDepth 100000 in
set_option maxHeartbeats 4000000 in
theorem r12word_any (s : ByteArray) (i : Nat) (a : Int) (w : World) (ha : a = i) (hi : i ≤ s.size) (hs : s.size ≤ 10000000) :
    Calls Tryz.prog 90 #[.string s, .int .i64 a] w fun e w' => (∃ j : Nat, e = .returned (.tuple #[.string (textQ (wordC (s.data.toList.drop i))), .int .i64 j]) ∧ i ≤ j ∧ j ≤ s.size ∧ Hid (s.data.toList.drop j = (s.data.toList.drop i).dropWhile inNameC)) ∧ Below w.heap.size w w' := by
  subst ha
  have hl : s.data.toList.length = s.size := rfl
  obtain ⟨R, hR⟩ : ∃ R, wordC (s.data.toList.drop i) = R := ⟨_, rfl⟩
  have HR := Lib.hid hR
  rw [hR]
  obtain ⟨T, hT⟩ : ∃ T, textQ R = T := ⟨_, rfl⟩
  have HT := Lib.hid hT
  rw [hT]
  clear hT
  go_enter Tryz.func90, Tryz.ntmps90
  go_wp2
  go_loopw [1, 6] (fun iv vv wr => ∃ (j : Nat) (acc : TextA), i ≤ j ∧ j ≤ s.size ∧ iv = .int .i64 j ∧ BytesC wr w.heap.size vv acc ∧ acc.length ≤ j ∧ Hid (R = acc ++ wordC (s.data.toList.drop j) ∧ (s.data.toList.drop j).dropWhile inNameC = (s.data.toList.drop i).dropWhile inNameC) ∧ Below w.heap.size w wr) (fun iv _ _ => s.size - (intOf iv).toNat)
  case atStart => exact ⟨i, [], Nat.le_refl _, hi, rfl, bytes_nil _ _, by simp, Lib.hid ⟨by rw [List.nil_append]; exact HR.out.symm, rfl⟩, Below.refl _ _⟩
  case round =>
    obtain ⟨j, acc, hij, hj, rfl, hown, hal, hd, hbr⟩ := hrel
    have hbz := hbr.size
    obtain ⟨k, hk⟩ : ∃ k, acc.length = k := ⟨_, rfl⟩
    obtain ⟨ao, cap, rfl⟩ := bytes_slice hown
    have Hown : Hid (BytesC wr w.heap.size (.slice ao k cap) acc) := Lib.hid (by rw [← hk]; exact hown)
    have Hk := Lib.hid hk
    rw [hk] at hal ⊢
    clear hown hR
    by_cases hlt : j < s.size
    · obtain ⟨hd1, hd2⟩ := hd.out
      rw [cons_atC s j hlt] at hd1 hd2
      unfold wordC at hd1
      rw [List.dropWhile_cons] at hd2
      rw [List.takeWhile_cons] at hd1
      obtain ⟨c, hc⟩ : ∃ c, s[j] = c := ⟨_, rfl⟩
      rw [hc] at hd1 hd2
      have hcn : (s[j].toNat : Int) = c.toNat := by rw [hc]
      have hlt2 := fun W => r12letter_any (Lib.lowerB c) W
      rw [low_name] at hlt2
      have hlow : (65 ≤ c.toNat ∧ c.toNat ≤ 90 ∧ ((Lib.lowerB c).toNat : Int) = (c.toNat : Int) + 32) ∨ ((c.toNat < 65 ∨ 90 < c.toNat) ∧ Lib.lowerB c = c) := by
        have h : ∀ n : Fin 256, (65 ≤ (UInt8.ofNat n.val).toNat ∧ (UInt8.ofNat n.val).toNat ≤ 90 ∧ (Lib.lowerB (UInt8.ofNat n.val)).toNat = (UInt8.ofNat n.val).toNat + 32) ∨ (((UInt8.ofNat n.val).toNat < 65 ∨ 90 < (UInt8.ofNat n.val).toNat) ∧ Lib.lowerB (UInt8.ofNat n.val) = UInt8.ofNat n.val) := by decide +kernel
        have := h ⟨c.toNat, c.toNat_lt⟩
        rw [UInt8.ofNat_toNat] at this
        rcases this with ⟨q1, q2, q3⟩ | ⟨q1, q2⟩
        · exact .inl ⟨q1, q2, by omega⟩
        · exact .inr ⟨q1, q2⟩
      cases hg : inNameC c with
      | true =>
        rw [hg, if_pos rfl] at hd1 hd2
        simp only [hg] at hlt2
        have Hn : Hid (R = (acc ++ [Lib.lowerB c]) ++ wordC (s.data.toList.drop (j + 1)) ∧ (s.data.toList.drop (j + 1)).dropWhile inNameC = (s.data.toList.drop i).dropWhile inNameC) := Lib.hid ⟨by
          rw [hd1]
          unfold wordC
          simp, hd2⟩
        have hl9 : (acc ++ [Lib.lowerB c]).length ≤ j + 1 := by rw [List.length_append, hk]; simp; omega
        have e9 : (acc ++ [Lib.lowerB c]).length = k + 1 := by rw [List.length_append, hk]; rfl
        have E9 := Lib.hid (And.intro e9 hl9)
        clear hd hd1 hd2 hg hl9 e9 hk
        rcases hlow with ⟨g1, g2, g3⟩ | ⟨g1, g3⟩
        · have hwp : IntKind.u8.wrap ((c.toNat : Int) + 32) = ((Lib.lowerB c).toNat : Int) := by rw [g3, IntKind.wrap_u8]; omega
          have f1 : (65 : Int) ≤ (s[j].toNat : Int) := by rw [hcn]; omega
          have f2 : (s[j].toNat : Int) ≤ 90 := by rw [hcn]; omega
          have hwp2 : IntKind.u8.wrap ((s[j].toNat : Int) + 32) = ((Lib.lowerB c).toNat : Int) := by rw [hcn]; exact hwp
          obtain ⟨wa, hwa⟩ : ∃ wa, wr.alloc (.cells #[.int .u8 ((Lib.lowerB c).toNat : Int)] 5) = wa := ⟨_, rfl⟩
          have la : Below wr.heap.size wr wa := by rw [← hwa]; exact (Below.refl _ _).alloc (Nat.le_refl _) _
          have Oa := Lib.hid (bytes_below Hown.out la)
          have Ca : Hid (wa.cell? ⟨wr.heap.size, 0, none⟩ = some (.int .u8 ((Lib.lowerB c).toNat : Int))) := Lib.hid (by
            rw [← hwa]
            exact Lib.cell_of_heap (heap_alloc_new wr _) 0)
          have Ba := Lib.hid (hbr.trans (la.mono hbz))
          clear la hwp g3 hcn hc Hown hbr
          go_wp2_with (first | (go_at_call 92; refine (hlt2 _).mono ?_; rintro e w1 ⟨rfl, h9⟩; obtain rfl := h9.symm) | (at_builtin; refine append_byteC rfl _ _ rfl w.heap.size (.slice ao k cap) acc (Lib.lowerB c) rfl Oa.out Ba.out.size (by rw [Hk.out]; omega) wr.heap.size 1 rfl Ca.out ?_))
          intro v' w6 hown6 hgrow
          have b6 : Below w.heap.size w w6 := Ba.out.grown hgrow Ba.out.size (fun q hq => (Oa.out.lt q hq).1)
          obtain ⟨ao6, cap6, rfl⟩ := bytes_slice hown6
          have O6 := Lib.hid hown6
          rw [E9.out.1]
          have o6 : BytesC w6 w.heap.size (.slice ao6 (k + 1) cap6) (acc ++ [Lib.lowerB c]) := by rw [← E9.out.1]; exact O6.out
          have O7 := Lib.hid o6
          clear hown6 hgrow o6 Oa Ba Ca
          go_wp2
          go_roundw
          case rel => exact ⟨j + 1, _, by omega, by omega, by go_num, O7.out, E9.out.2, Hn, b6⟩
          case measure => simp [intOf]; omega
        · rw [g3] at hlt2 Hn E9
          have f1 : ¬ (65 : Int) ≤ (s[j].toNat : Int) ∨ ((65 : Int) ≤ (s[j].toNat : Int) ∧ ¬ (s[j].toNat : Int) ≤ 90) := by
            rw [hcn]
            omega
          obtain ⟨wa, hwa⟩ : ∃ wa, wr.alloc (.cells #[.int .u8 (s[j].toNat : Int)] 5) = wa := ⟨_, rfl⟩
          have la : Below wr.heap.size wr wa := by rw [← hwa]; exact (Below.refl _ _).alloc (Nat.le_refl _) _
          have Oa := Lib.hid (bytes_below Hown.out la)
          have Ca : Hid (wa.cell? ⟨wr.heap.size, 0, none⟩ = some (.int .u8 (c.toNat : Int))) := Lib.hid (by
            rw [← hwa, ← hcn]
            exact Lib.cell_of_heap (heap_alloc_new wr _) 0)
          have Ba := Lib.hid (hbr.trans (la.mono hbz))
          have hlt3 : ∀ W, Calls Tryz.prog 92 #[.int .u8 (s[j].toNat : Int)] W fun e w' => e = .returned (.bool true) ∧ w' = W := fun W => by rw [hcn]; exact hlt2 W
          clear la hcn hc Hown hbr hlt2
          rcases f1 with f1 | ⟨f1, f2⟩
          all_goals
            go_wp2_with (first | (go_at_call 92; refine (hlt3 _).mono ?_; rintro e w1 ⟨rfl, h9⟩; obtain rfl := h9.symm) | (at_builtin; refine append_byteC rfl _ _ rfl w.heap.size (.slice ao k cap) acc c rfl Oa.out Ba.out.size (by rw [Hk.out]; omega) wr.heap.size 1 rfl Ca.out ?_))
            intro v' w6 hown6 hgrow
            have b6 : Below w.heap.size w w6 := Ba.out.grown hgrow Ba.out.size (fun q hq => (Oa.out.lt q hq).1)
            obtain ⟨ao6, cap6, rfl⟩ := bytes_slice hown6
            have O6 := Lib.hid hown6
            rw [E9.out.1]
            have o6 : BytesC w6 w.heap.size (.slice ao6 (k + 1) cap6) (acc ++ [c]) := by rw [← E9.out.1]; exact O6.out
            have O7 := Lib.hid o6
            clear hown6 hgrow o6 Oa Ba Ca
            go_wp2
            go_roundw
            case rel => exact ⟨j + 1, _, by omega, by omega, by go_num, O7.out, E9.out.2, Hn, b6⟩
            case measure => simp [intOf]; omega
      | false =>
        rw [hg, if_neg (by simp)] at hd1 hd2
        simp only [hg] at hlt2
        have hRa : R = acc := by rw [hd1]; simp
        have Hn : Hid (s.data.toList.drop j = (s.data.toList.drop i).dropWhile inNameC) := Lib.hid (by rw [← hd2, cons_atC s j hlt, hc])
        have hcv : ∀ W, Below wr.heap.size wr W → (convert 67 9 (.slice ao k cap)).run Tryz.prog W = .ok (.string (textQ R)) W := fun W hW => by
          rw [hRa]
          exact conv_own4 (bytes_below Hown.out hW)
        have hcv0 := hcv wr (Below.refl _ _)
        rw [HT.out] at hcv0
        clear hd hd1 hd2 hg hRa hcv hk
        rcases hlow with ⟨g1, g2, g3⟩ | ⟨g1, g3⟩
        · have hwp2 : IntKind.u8.wrap ((s[j].toNat : Int) + 32) = ((Lib.lowerB c).toNat : Int) := by rw [hcn, g3, IntKind.wrap_u8]; omega
          have f1 : (65 : Int) ≤ (s[j].toNat : Int) := by rw [hcn]; omega
          have f2 : (s[j].toNat : Int) ≤ 90 := by rw [hcn]; omega
          clear g3 hcn hc
          go_wp2_with (go_at_call 92; refine (hlt2 _).mono ?_; rintro e w1 ⟨rfl, h9⟩; obtain rfl := h9.symm)
          go_ret2
          exact ⟨⟨j, rfl, hij, hj, Hn⟩, hbr⟩
        · rw [g3] at hlt2
          have f1 : ¬ (65 : Int) ≤ (s[j].toNat : Int) ∨ ((65 : Int) ≤ (s[j].toNat : Int) ∧ ¬ (s[j].toNat : Int) ≤ 90) := by
            rw [hcn]
            omega
          have hlt3 : ∀ W, Calls Tryz.prog 92 #[.int .u8 (s[j].toNat : Int)] W fun e w' => e = .returned (.bool false) ∧ w' = W := fun W => by rw [hcn]; exact hlt2 W
          clear g3 hcn hc hlt2
          rcases f1 with f1 | ⟨f1, f2⟩
          all_goals
            go_wp2_with (go_at_call 92; refine (hlt3 _).mono ?_; rintro e w1 ⟨rfl, h9⟩; obtain rfl := h9.symm)
            go_ret2
            exact ⟨⟨j, rfl, hij, hj, Hn⟩, hbr⟩
    · obtain rfl : j = s.size := by omega
      have hnil : s.data.toList.drop s.size = [] := List.drop_of_length_le (by rw [hl]; omega)
      obtain ⟨hd1, hd2⟩ := hd.out
      have hRa : R = acc := by
        rw [hd1, hnil]
        unfold wordC
        simp
      have Hn : Hid (s.data.toList.drop s.size = (s.data.toList.drop i).dropWhile inNameC) := Lib.hid (by rw [← hd2, hnil]; rfl)
      have hcv0 : (convert 67 9 (.slice ao k cap)).run Tryz.prog wr = .ok (.string (textQ R)) wr := by
        rw [hRa]
        exact conv_own4 Hown.out
      rw [HT.out] at hcv0
      clear hd hd1 hd2 hRa hk hnil
      go_wp2
      go_ret2
      exact ⟨⟨s.size, rfl, hij, hj, Hn⟩, hbr⟩
end Go.Proofs.YtidlpdiephlkhaaGreatDoor
