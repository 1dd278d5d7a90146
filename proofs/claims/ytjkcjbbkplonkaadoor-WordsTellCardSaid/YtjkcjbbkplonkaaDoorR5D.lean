/-
  The document's answer of layer 5, written in Go: what a text says: told by the plain function.
-/
import Derived.Test.YtjkcjbbkplonkaaDoorR5E
import Derived.Test.YtjkcjbbkplonkaaDoorR3D
import Derived.Deep.Cut
namespace Go.Proofs.YtjkcjbbkplonkaaDoor
open Go.RowKit

/-- From `from` on no blank stands ahead of i. -/
theorem split_more (l : List UInt8) (f i : Nat) (hf : f ≤ i) (hn : (32 : UInt8) ∉ (l.drop f).take (i - f)) (hi : i < l.length) (hc : l[i] = 32) : splitB 32 (l.drop f) = (l.drop f).take (i - f) :: splitB 32 (l.drop (i + 1)) := by
  have e : l.drop f = (l.drop f).take (i - f) ++ 32 :: l.drop (i + 1) := by
    have h1 : (l.drop f).drop (i - f) = l.drop i := by rw [List.drop_drop]; congr 1; omega
    have h2 : l.drop i = 32 :: l.drop (i + 1) := by rw [List.drop_eq_getElem_cons hi, hc]
    rw [← h2, ← h1, List.take_append_drop]
  conv => lhs; rw [e]
  exact splitB_at 32 _ _ hn
theorem split_last (l : List UInt8) (f : Nat) (hn : (32 : UInt8) ∉ (l.drop f).take (l.length - f)) : splitB 32 (l.drop f) = [l.drop f] := by
  rw [List.take_of_length_le (by rw [List.length_drop]; omega)] at hn
  exact splitB_one 32 _ hn
theorem no_more (l : List UInt8) (f i : Nat) (hf : f ≤ i) (hn : (32 : UInt8) ∉ (l.drop f).take (i - f)) (hi : i < l.length) (hc : l[i] ≠ 32) : (32 : UInt8) ∉ (l.drop f).take (i + 1 - f) := by
  have e : (l.drop f).take (i + 1 - f) = (l.drop f).take (i - f) ++ [l[i]] := by
    rw [show i + 1 - f = (i - f) + 1 by omega, List.take_succ_eq_append_getElem (by rw [List.length_drop]; omega)]
    simp only [List.getElem_drop, show f + (i - f) = i by omega]
  rw [e]
  intro h
  rcases List.mem_append.1 h with h | h
  · exact hn h
  · exact hc (List.mem_singleton.1 h).symm
/-- What is asked of a word, byte for byte. -/
theorem letters_parts (p : List UInt8) : lettersW p = if p.length < 12 then none else if p.take 10 ≠ aheadW then none else if p.drop (p.length - 2) ≠ [63, 61] then none else some ((p.drop 10).take (p.length - 12)) := by
  cases h : lettersW p with
  | some l =>
    have e := letters_some h
    have hl : p.length = l.length + 12 := by rw [e, List.length_append, List.length_append]; show 10 + (_ + 2) = _; omega
    have h10 : p.take 10 = aheadW := by rw [e]; exact List.take_left' rfl
    have hd : p.drop 10 = l ++ [63, 61] := by rw [e]; exact List.drop_left' rfl
    have h2 : p.drop (p.length - 2) = [63, 61] := by
      rw [show p.length - 2 = 10 + l.length by omega, ← List.drop_drop, hd]
      exact List.drop_left' rfl
    rw [if_neg (by omega), if_neg (by rw [h10]; simp), if_neg (by rw [h2]; simp), hd, show p.length - 12 = l.length by omega, List.take_left' rfl]
  | none =>
    by_cases c1 : p.length < 12
    · rw [if_pos c1]
    by_cases c2 : p.take 10 = aheadW
    · by_cases c3 : p.drop (p.length - 2) = [63, 61]
      · exfalso
        have e : p = aheadW ++ ((p.drop 10).take (p.length - 12) ++ [63, 61]) := by
          have h1 : (p.drop 10).drop (p.length - 12) = [63, 61] := by rw [List.drop_drop, show 10 + (p.length - 12) = p.length - 2 by omega]; exact c3
          rw [← h1, List.take_append_drop, ← c2, List.take_append_drop]
        rw [e, letters_word] at h
        cases h
      · rw [if_neg c1, if_neg (by rw [c2]; simp), if_pos c3]
    · rw [if_neg c1, if_pos c2]
theorem dec_short {t x : List UInt8} (h : decB t = some x) : x.length ≤ t.length := by
  rw [← enc_dec t x h, enc_len]
  omega
/-- What lies at the head of the loop. -/
def DecI (s : ByteArray) (i f : Nat) (O : ByteArray) : Prop :=
  O.size ≤ f ∧ ((i ≤ s.size ∧ f ≤ i ∧ (32 : UInt8) ∉ (s.data.toList.drop f).take (i - f) ∧ readR [] (splitB 32 s.data.toList) = readR O.data.toList (splitB 32 (s.data.toList.drop f))) ∨ (i = s.size + 1 ∧ f = s.size + 1 ∧ readR [] (splitB 32 s.data.toList) = some O.data.toList))
theorem readR_cons (b p : List UInt8) (ps : List (List UInt8)) : readR b (p :: ps) = ps.foldl stepR (stepR (some b) p) := rfl
/-- The piece that ends at i, and what stands behind it. -/
theorem decI_piece {s : ByteArray} {i f : Nat} {O : ByteArray} (h : DecI s i f O) (hi : i ≤ s.size) (hc : ∀ h : i < s.size, s[i] = 32) : ∃ rest, readR [] (splitB 32 s.data.toList) = readR O.data.toList ((s.extract f i).data.toList :: rest) ∧ f ≤ i ∧ (s.extract f i).size = i - f ∧
    ∀ O' : ByteArray, O'.size ≤ i + 1 → readR [] (splitB 32 s.data.toList) = readR O'.data.toList rest → DecI s (i + 1) (i + 1) O' := by
  have hl : s.data.toList.length = s.size := rfl
  obtain ⟨hO, (⟨h1, h2, h3, h4⟩ | ⟨h1, _, _⟩)⟩ := h
  · have hx : (s.extract f i).data.toList = (s.data.toList.drop f).take (i - f) := piece5 s f i
    have hz : (s.extract f i).size = i - f := by
      have e : (s.extract f i).size = (s.extract f i).data.toList.length := rfl
      rw [e, hx, List.length_take, List.length_drop, hl]
      omega
    rcases Nat.lt_or_ge i s.size with hlt | hge
    · have hsp := split_more s.data.toList f i h2 h3 (by omega) (hc hlt)
      refine ⟨splitB 32 (s.data.toList.drop (i + 1)), by rw [h4, hsp, hx], h2, hz, fun O' ho hr => ⟨ho, .inl ⟨by omega, Nat.le_refl _, by simp, hr⟩⟩⟩
    · obtain rfl : i = s.size := by omega
      have hsp := split_last s.data.toList f h3
      refine ⟨[], by rw [h4, hsp, hx, List.take_of_length_le (by rw [List.length_drop, hl]; omega)], h2, hz, fun O' ho hr => ⟨ho, .inr ⟨rfl, rfl, hr⟩⟩⟩
  · omega
theorem decI_more {s : ByteArray} {i f : Nat} {O : ByteArray} (h : DecI s i f O) (hi : i < s.size) (hc : s[i] ≠ 32) : DecI s (i + 1) f O := by
  obtain ⟨hO, (⟨h1, h2, h3, h4⟩ | ⟨h1, _, _⟩)⟩ := h
  · exact ⟨hO, .inl ⟨by omega, by omega, no_more _ _ _ h2 h3 (by simpa using hi) hc, h4⟩⟩
  · omega
theorem decR_bad {s : ByteArray} (hp : plainW s.data.toList = false) (h : readR [] (splitB 32 s.data.toList) = none) : decW s.data.toList = none := by
  rw [← decR_eq]
  unfold decR
  rw [hp, h]
  rfl

theorem text_bytes5 (t : ByteArray) : t.toList = t.data.toList := by
  cases t with
  | mk d => cases d with
    | mk l => simp
theorem ahead_eq (X : ByteArray) : (X.extract 0 10).toList = X.data.toList.take 10 := by rw [text_bytes5, piece5]; rfl
theorem behind_eq (X : ByteArray) : (X.extract (X.size - 2) X.size).toList = X.data.toList.drop (X.size - 2) := by
  rw [text_bytes5, piece5, List.take_of_length_le (by rw [List.length_drop]; exact Nat.le_refl _)]

set_option maxRecDepth 100000 in
set_option maxHeartbeats 4000000 in
theorem r5dec_any (s : ByteArray) (w : World) (hs : s.size ≤ 100000) :
    Calls Tryd.prog 9 #[.string s] w fun e w' => e = .returned (decV (decW s.data.toList)) ∧ Below w.heap.size w w' := by
  have hl : s.data.toList.length = s.size := rfl
  have hpl := r5plain_any s w (by omega)
  cases hp : plainW s.data.toList with
  | true =>
    have he : decV (decW s.data.toList) = .tuple #[.string s, .int .i64 0] := by
      unfold decW
      rw [if_pos hp]
      rfl
    rw [he]
    rw [hp] at hpl
    clear he hp hl
    go_enter Tryd.func9, Tryd.ntmps9
    go_wp2_with (go_at_call 13; refine hpl.mono ?_; rintro e w1 ⟨rfl, rfl⟩)
    go_ret2
    exact ⟨rfl, Below.refl _ _⟩
  | false =>
    have hbad := fun h => congrArg decV (decR_bad hp h)
    rw [hp] at hpl
    have h0 : DecI s 0 0 ⟨#[]⟩ := ⟨Nat.le_refl _, .inl ⟨by omega, Nat.le_refl _, by simp, rfl⟩⟩
    have Hp := Lib.hid hp
    have H0 := Lib.hid h0
    have Hbad := Lib.hid hbad
    clear hp hl h0 hbad
    obtain ⟨V, hV⟩ : ∃ V, decV (decW s.data.toList) = V := ⟨_, rfl⟩
    rw [hV]
    have HV := Lib.hid hV
    clear hV
    go_enter Tryd.func9, Tryd.ntmps9
    go_wp2_with (go_at_call 13; refine hpl.mono ?_; rintro e w1 ⟨rfl, rfl⟩)
    clear hpl
    go_loopw [4, 5, 6, 7, 8, 9] (fun ov fv iv _ _ _ wr => ∃ (i f : Nat) (O : ByteArray), iv = .int .i64 i ∧ fv = .int .i64 f ∧ ov = .string O ∧ i ≤ s.size + 1 ∧ f ≤ i ∧ O.size ≤ f ∧ Hid (DecI s i f O) ∧ Below w.heap.size w wr) (fun _ _ iv _ _ _ _ => s.size + 1 - (intOf iv).toNat)
    case atStart => exact ⟨0, 0, ⟨#[]⟩, rfl, rfl, rfl, by omega, by omega, Nat.le_refl _, H0, Below.refl _ _⟩
    case round =>
      obtain ⟨i, f, O, rfl, rfl, rfl, hi, hfi, hOf, HI, hbr⟩ := hrel
      have hbz := hbr.size
      by_cases hle : i ≤ s.size
      · by_cases hgo : ∃ h : i < s.size, s[i] ≠ 32
        · obtain ⟨hlt, hne⟩ := hgo
          have HI2 := Lib.hid (decI_more HI.out hlt hne)
          have hb : (((s[i]).toNat : Int) != 32) = true := by
            rw [bne_iff_ne]
            intro e
            exact hne (UInt8.toNat_inj.1 (by show _ = 32; omega))
          clear hne
          go_wp2
          exact ⟨⟨i + 1, f, O, by go_num, rfl, rfl, by omega, by omega, hOf, HI2, hbr⟩, by simp [intOf]; omega⟩
        · have hc : ∀ h : i < s.size, s[i] = 32 := fun h => Decidable.byContradiction fun hn => hgo ⟨h, hn⟩
          obtain ⟨rest, hr1, _, hXs, hr2⟩ := decI_piece HI.out hle hc
          obtain ⟨X, hX⟩ : ∃ X : ByteArray, s.extract f i = X := ⟨_, rfl⟩
          rw [hX] at hr1 hXs
          have Hr1 := Lib.hid hr1
          have Hr2 := Lib.hid hr2
          have HX := Lib.hid hX
          have hXi : X.size + f = i := by omega
          clear hr1 hr2 hX hXs hgo
          have HN : Hid (lettersW X.data.toList = none → decV none = V) := Lib.hid fun h => by
            rw [← HV.out]
            refine (Hbad.out ?_).symm
            rw [Hr1.out, readR_cons]
            unfold stepR
            rw [h]
            exact readR_none rest
          have HN2 : Hid (∀ l, lettersW X.data.toList = some l → decB l = none → decV none = V) := Lib.hid fun l h1 h2 => by
            rw [← HV.out]
            refine (Hbad.out ?_).symm
            rw [Hr1.out, readR_cons]
            unfold stepR
            rw [h1]
            simp only [h2]
            exact readR_none rest
          have HS : Hid (∀ l x (Y : ByteArray), lettersW X.data.toList = some l → decB l = some x → Y.data.toList = x → O.size + Y.size ≤ i + 1 → DecI s (i + 1) (i + 1) (O ++ Y)) := Lib.hid fun l x Y h1 h2 h3 h4 => Hr2.out _ (by rw [ByteArray.size_append]; exact h4) (by
            rw [Hr1.out, readR_cons]
            unfold stepR
            rw [h1]
            simp only [h2]
            rw [app5, h3]
            rfl)
          by_cases hlt : i < s.size
          · have hb : (((s[i]).toNat : Int) != 32) = false := by rw [hc hlt]; rfl
            clear hc
            go_upto_region 11 with fail
            rw [HX.out]
            by_cases h12 : X.size < 12
            · have hv := HN.out (by rw [letters_parts, if_pos (show X.data.toList.length < 12 from h12)])
              have Hv := Lib.hid hv
              clear hv
              go_wp2
              go_ret2
              exact ⟨by rw [← Hv.out]; rfl, hbr⟩
            · have hz12 : decide ((X.size : Int) < 12) = false := decide_eq_false (by omega)
              by_cases h10 : X.data.toList.take 10 = aheadW
              · have e1 : ((X.extract 0 10).toList == [61, 63, 85, 84, 70, 45, 56, 63, 66, 63]) = true := by rw [ahead_eq, h10]; rfl
                by_cases h2 : X.data.toList.drop (X.size - 2) = [63, 61]
                · have e2 : ((X.extract (X.size - 2) X.size).toList == [63, 61]) = true := by rw [behind_eq, h2]; rfl
                  have hlet := letters_parts X.data.toList
                  rw [if_neg (show ¬ X.data.toList.length < 12 from h12), if_neg (by rw [h10]; simp), if_neg (by rw [show X.data.toList.length = X.size from rfl, h2]; simp)] at hlet
                  obtain ⟨L, hL⟩ : ∃ L : ByteArray, X.extract 10 (X.size - 2) = L := ⟨_, rfl⟩
                  have hLd : L.data.toList = (X.data.toList.drop 10).take (X.data.toList.length - 12) := by
                    rw [← hL, piece5, show X.data.toList.length = X.size from rfl]
                    congr 1
                  have hLs : L.size ≤ X.size := by
                    have e : L.size = L.data.toList.length := rfl
                    rw [e, hLd, List.length_take, List.length_drop, show X.data.toList.length = X.size from rfl]
                    omega
                  rw [← hLd] at hlet
                  have hcall := fun W => r3dec_any L W (by omega)
                  have hHL := Lib.hid hL
                  cases hd : decB L.data.toList with
                  | none =>
                    rw [hd] at hcall
                    have hv := HN2.out _ hlet hd
                    have Hv := Lib.hid hv
                    clear hv hlet hLd hd h2 h10 hL
                    unfold decV at hcall
                    go_wp2_with fail
                    rw [hHL.out]
                    refine (hcall _).mono ?_
                    rintro e w2 ⟨rfl, l2⟩
                    go_wp2
                    go_ret2
                    exact ⟨by rw [← Hv.out]; rfl, hbr.trans (l2.mono hbz)⟩
                  | some x =>
                    rw [hd] at hcall
                    have hxl := dec_short hd
                    rw [show L.data.toList.length = L.size from rfl] at hxl
                    obtain ⟨Y, hY⟩ : ∃ Y : ByteArray, (⟨x.toArray⟩ : ByteArray) = Y := ⟨_, rfl⟩
                    have hYd : Y.data.toList = x := by rw [← hY]
                    have hYs : Y.size ≤ L.size := by
                      have e : Y.size = Y.data.toList.length := rfl
                      rw [e, hYd]
                      exact hxl
                    have hn := HS.out _ _ Y hlet hd hYd (by omega)
                    have Hn := Lib.hid hn
                    unfold decV at hcall
                    simp only [hY] at hcall
                    have hOY : (O ++ Y).size ≤ i + 1 := by rw [ByteArray.size_append]; omega
                    have HOY := Lib.hid hOY
                    have hOY2 : O.size + Y.size ≤ 1000000 := by omega
                    clear hn hlet hLd hd h2 h10 hL hY hYd hxl hOY
                    go_wp2_with fail
                    rw [hHL.out]
                    refine (hcall _).mono ?_
                    rintro e w2 ⟨rfl, l2⟩
                    have l3 := hbr.trans (l2.mono hbz)
                    clear hcall l2
                    go_wp2
                    exact ⟨⟨i + 1, i + 1, _, by go_num, by go_num, rfl, by omega, Nat.le_refl _, HOY.out, Hn, l3⟩, by simp [intOf]; omega⟩
                · have e2 : ((X.extract (X.size - 2) X.size).toList == [63, 61]) = false := by rw [behind_eq]; exact beq_eq_false_iff_ne.2 h2
                  have hv := HN.out (by rw [letters_parts, if_neg (show ¬ X.data.toList.length < 12 from h12), if_neg (by rw [h10]; simp), if_pos (by rw [show X.data.toList.length = X.size from rfl]; exact h2)])
                  have Hv := Lib.hid hv
                  clear hv h2 h10
                  go_wp2
                  go_ret2
                  exact ⟨by rw [← Hv.out]; rfl, hbr⟩
              · have e1 : ((X.extract 0 10).toList == [61, 63, 85, 84, 70, 45, 56, 63, 66, 63]) = false := by rw [ahead_eq]; exact beq_eq_false_iff_ne.2 h10
                have hv := HN.out (by rw [letters_parts, if_neg (show ¬ X.data.toList.length < 12 from h12), if_pos h10])
                have Hv := Lib.hid hv
                clear hv h10
                go_wp2
                go_ret2
                exact ⟨by rw [← Hv.out]; rfl, hbr⟩
          · clear hc
            go_upto_region 11 with fail
            rw [HX.out]
            by_cases h12 : X.size < 12
            · have hv := HN.out (by rw [letters_parts, if_pos (show X.data.toList.length < 12 from h12)])
              have Hv := Lib.hid hv
              clear hv
              go_wp2
              go_ret2
              exact ⟨by rw [← Hv.out]; rfl, hbr⟩
            · have hz12 : decide ((X.size : Int) < 12) = false := decide_eq_false (by omega)
              by_cases h10 : X.data.toList.take 10 = aheadW
              · have e1 : ((X.extract 0 10).toList == [61, 63, 85, 84, 70, 45, 56, 63, 66, 63]) = true := by rw [ahead_eq, h10]; rfl
                by_cases h2 : X.data.toList.drop (X.size - 2) = [63, 61]
                · have e2 : ((X.extract (X.size - 2) X.size).toList == [63, 61]) = true := by rw [behind_eq, h2]; rfl
                  have hlet := letters_parts X.data.toList
                  rw [if_neg (show ¬ X.data.toList.length < 12 from h12), if_neg (by rw [h10]; simp), if_neg (by rw [show X.data.toList.length = X.size from rfl, h2]; simp)] at hlet
                  obtain ⟨L, hL⟩ : ∃ L : ByteArray, X.extract 10 (X.size - 2) = L := ⟨_, rfl⟩
                  have hLd : L.data.toList = (X.data.toList.drop 10).take (X.data.toList.length - 12) := by
                    rw [← hL, piece5, show X.data.toList.length = X.size from rfl]
                    congr 1
                  have hLs : L.size ≤ X.size := by
                    have e : L.size = L.data.toList.length := rfl
                    rw [e, hLd, List.length_take, List.length_drop, show X.data.toList.length = X.size from rfl]
                    omega
                  rw [← hLd] at hlet
                  have hcall := fun W => r3dec_any L W (by omega)
                  have hHL := Lib.hid hL
                  cases hd : decB L.data.toList with
                  | none =>
                    rw [hd] at hcall
                    have hv := HN2.out _ hlet hd
                    have Hv := Lib.hid hv
                    clear hv hlet hLd hd h2 h10 hL
                    unfold decV at hcall
                    go_wp2_with fail
                    rw [hHL.out]
                    refine (hcall _).mono ?_
                    rintro e w2 ⟨rfl, l2⟩
                    go_wp2
                    go_ret2
                    exact ⟨by rw [← Hv.out]; rfl, hbr.trans (l2.mono hbz)⟩
                  | some x =>
                    rw [hd] at hcall
                    have hxl := dec_short hd
                    rw [show L.data.toList.length = L.size from rfl] at hxl
                    obtain ⟨Y, hY⟩ : ∃ Y : ByteArray, (⟨x.toArray⟩ : ByteArray) = Y := ⟨_, rfl⟩
                    have hYd : Y.data.toList = x := by rw [← hY]
                    have hYs : Y.size ≤ L.size := by
                      have e : Y.size = Y.data.toList.length := rfl
                      rw [e, hYd]
                      exact hxl
                    have hn := HS.out _ _ Y hlet hd hYd (by omega)
                    have Hn := Lib.hid hn
                    unfold decV at hcall
                    simp only [hY] at hcall
                    have hOY : (O ++ Y).size ≤ i + 1 := by rw [ByteArray.size_append]; omega
                    have HOY := Lib.hid hOY
                    have hOY2 : O.size + Y.size ≤ 1000000 := by omega
                    clear hn hlet hLd hd h2 h10 hL hY hYd hxl hOY
                    go_wp2_with fail
                    rw [hHL.out]
                    refine (hcall _).mono ?_
                    rintro e w2 ⟨rfl, l2⟩
                    have l3 := hbr.trans (l2.mono hbz)
                    clear hcall l2
                    go_wp2
                    exact ⟨⟨i + 1, i + 1, _, by go_num, by go_num, rfl, by omega, Nat.le_refl _, HOY.out, Hn, l3⟩, by simp [intOf]; omega⟩
                · have e2 : ((X.extract (X.size - 2) X.size).toList == [63, 61]) = false := by rw [behind_eq]; exact beq_eq_false_iff_ne.2 h2
                  have hv := HN.out (by rw [letters_parts, if_neg (show ¬ X.data.toList.length < 12 from h12), if_neg (by rw [h10]; simp), if_pos (by rw [show X.data.toList.length = X.size from rfl]; exact h2)])
                  have Hv := Lib.hid hv
                  clear hv h2 h10
                  go_wp2
                  go_ret2
                  exact ⟨by rw [← Hv.out]; rfl, hbr⟩
              · have e1 : ((X.extract 0 10).toList == [61, 63, 85, 84, 70, 45, 56, 63, 66, 63]) = false := by rw [ahead_eq]; exact beq_eq_false_iff_ne.2 h10
                have hv := HN.out (by rw [letters_parts, if_neg (show ¬ X.data.toList.length < 12 from h12), if_pos h10])
                have Hv := Lib.hid hv
                clear hv h10
                go_wp2
                go_ret2
                exact ⟨by rw [← Hv.out]; rfl, hbr⟩
      · obtain rfl : i = s.size + 1 := by omega
        have hrd : readR [] (splitB 32 s.data.toList) = some O.data.toList := by
          obtain ⟨_, (⟨h, _⟩ | ⟨_, _, h⟩)⟩ := HI.out
          · omega
          · exact h
        have hdr : decW s.data.toList = if plainW O.data.toList = true ∨ encW O.data.toList ≠ s.data.toList then none else some O.data.toList := by
          rw [← decR_eq]
          unfold decR
          rw [Hp.out, hrd]
          simp only [Bool.false_eq_true, if_false]
        have hpo := fun W => r5plain_any O W (by omega)
        cases hq : plainW O.data.toList with
        | true =>
          rw [hq] at hpo
          rw [hq, if_pos (.inl rfl)] at hdr
          have hv : decV none = V := by rw [← HV.out, hdr]
          have Hv := Lib.hid hv
          clear hv hdr hq hrd
          go_wp2_with (go_at_call 13; refine (hpo _).mono ?_; rintro e w1 ⟨rfl, rfl⟩)
          go_ret2
          exact ⟨by rw [← Hv.out]; rfl, hbr⟩
        | false =>
          rw [hq] at hpo
          have henc := fun W => r5enc_any O W (by omega)
          obtain ⟨E, hE⟩ : ∃ E : ByteArray, (⟨(encW O.data.toList).toArray⟩ : ByteArray) = E := ⟨_, rfl⟩
          have hEd : E.data.toList = encW O.data.toList := by rw [← hE]
          rw [hE] at henc
          by_cases he : encW O.data.toList = s.data.toList
          · have hb : (E.toList == s.toList) = true := by rw [text_bytes5, text_bytes5, hEd, he]; exact beq_self_eq_true _
            rw [hq, if_neg (by simp [he])] at hdr
            have hv : decV (some O.data.toList) = V := by rw [← HV.out, hdr]
            have Hv := Lib.hid hv
            clear hv hdr hq hrd hE hEd he
            go_wp2_with (first | (go_at_call 13; refine (hpo _).mono ?_; rintro e w1 ⟨rfl, rfl⟩) | (go_at_call 11; refine (henc _).mono ?_; rintro e w1 ⟨rfl, l2⟩))
            go_ret2
            exact ⟨by rw [← Hv.out]; rfl, hbr.trans (l2.mono hbz)⟩
          · have hb : (E.toList == s.toList) = false := by rw [text_bytes5, text_bytes5, hEd]; exact beq_eq_false_iff_ne.2 he
            rw [hq, if_pos (.inr he)] at hdr
            have hv : decV none = V := by rw [← HV.out, hdr]
            have Hv := Lib.hid hv
            clear hv hdr hq hrd hE hEd he
            go_wp2_with (first | (go_at_call 13; refine (hpo _).mono ?_; rintro e w1 ⟨rfl, rfl⟩) | (go_at_call 11; refine (henc _).mono ?_; rintro e w1 ⟨rfl, l2⟩))
            go_ret2
            exact ⟨by rw [← Hv.out]; rfl, hbr.trans (l2.mono hbz)⟩
end Go.Proofs.YtjkcjbbkplonkaaDoor
