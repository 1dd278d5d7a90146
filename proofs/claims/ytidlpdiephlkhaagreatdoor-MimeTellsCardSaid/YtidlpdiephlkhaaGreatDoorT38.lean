/-
  Texts of this proof, put together: R10C, R13C.
-/
import Derived.Test.YtidlpdiephlkhaaGreatDoorT35
import Derived.Test.YtidlpdiephlkhaaGreatDoorT13
import Derived.Test.YtidlpdiephlkhaaGreatDoorT03
import Derived.Test.YtidlpdiephlkhaaGreatDoorT27
import Derived.Test.YtidlpdiephlkhaaGreatDoorT30
namespace Go.Proofs.YtidlpdiephlkhaaGreatDoor
open Go.RowKit

theorem goes_firstR (s : ByteArray) (h : 0 < s.size) : goesH s.data.toList = blankH s[0] := by
  have := List.drop_eq_getElem_cons (l := s.data.toList) (i := 0) h
  rw [List.drop_zero] at this
  rw [this]
  rfl
theorem goes_last (s : ByteArray) (h : s.size - 1 < s.size) : goesH s.data.toList.reverse = blankH s[s.size - 1] := by
  have hne : s.data.toList ≠ [] := fun e => by
    have : s.data.toList.length = s.size := rfl
    rw [e] at this
    simp at this
    omega
  have e := List.dropLast_concat_getLast hne
  have hl : s.data.toList.getLast hne = s[s.size - 1] := by
    rw [List.getLast_eq_getElem]
    rfl
  rw [← e, List.reverse_append, hl]
  rfl

set_option maxRecDepth 100000 in
set_option maxHeartbeats 8000000 in
theorem r10right_any (f : FieldH) (w : World) (hs : f.2.length ≤ 1000000) : Calls Tryz.prog 89 #[fieldV f] w fun e w' => e = .returned (.bool (rightB f)) ∧ Below w.heap.size w w' := by
  rw [right_two]
  obtain ⟨X, hX⟩ : ∃ X, textQ f.1 = X := ⟨_, rfl⟩
  obtain ⟨Y, hY⟩ : ∃ Y, textQ f.2 = Y := ⟨_, rfl⟩
  have hYs : Y.size ≤ 1000000 := by rw [← hY]; exact hs
  rw [show f.1 = X.data.toList by rw [← hX]; rfl, show f.2 = Y.data.toList by rw [← hY]; rfl]
  unfold fieldV
  rw [hX, hY]
  clear hX hY hs f
  obtain ⟨wA, hwA⟩ : ∃ W, w.alloc (.cells #[.string X, .string Y] 52) = W := ⟨_, rfl⟩
  have bA : Below w.heap.size w wA := by rw [← hwA]; exact (Below.refl _ _).alloc (Nat.le_refl _) _
  have hh : wA.heap[w.heap.size]? = some (.cells #[.string X, .string Y] 52 (0, 0)) := by rw [← hwA]; exact heap_alloc_new w _
  have c0 : wA.cell? ⟨w.heap.size, 0, none⟩ = some (.string X) := Lib.cell_of_heap hh 0
  have c1 : wA.cell? ⟨w.heap.size, 1, none⟩ = some (.string Y) := Lib.cell_of_heap hh 1
  have BA := Lib.hid bA
  clear hh bA
  by_cases hsz : 1 ≤ X.size ∧ X.size ≤ 64
  · have HA : Hid ((∀ i (hi : i < X.size), nameC X[i] = true) → nameB X.data.toList = true) := Lib.hid fun h => by
      unfold nameB
      rw [all_bytes X h, bytes_len, decide_eq_true hsz]
      rfl
    have HN : Hid (∀ i (hi : i < X.size), nameC X[i] = false → nameB X.data.toList = false) := Lib.hid fun i hi h => by
      unfold nameB
      rw [not_bytes X i hi h, Bool.and_false]
    obtain ⟨hs1, hs2⟩ := hsz
    go_enter Tryz.func89, Tryz.ntmps89
    go_wp2
    clear hwA
    go_loop [3] (fun iv => ∃ i : Nat, i ≤ X.size ∧ iv = .int .i64 i ∧ Hid (∀ j (ha : j < X.size), j < i → nameC X[j] = true)) (fun iv => X.size - (intOf iv).toNat)
    case atStart => exact ⟨0, by omega, rfl, Lib.hid (fun j _ h => by omega)⟩
    case round =>
      obtain ⟨i, hi, rfl, hj⟩ := hrel
      by_cases hlt : i < X.size
      · have Hno := Lib.hid (HN.out i hlt)
        have Hyes : Hid (nameC X[i] = true → ∀ j (ha : j < X.size), j < i + 1 → nameC X[j] = true) := Lib.hid fun h j h1 h3 => by
          rcases Nat.lt_or_ge j i with h4 | h4
          · exact hj.out j h1 h4
          · obtain rfl : j = i := by omega
            exact h
        have hwr : IntKind.i64.wrap ((i : Int) + 1) = (i : Int) + 1 := by rw [IntWalk.i64_in _ (by omega)]
        clear hj
        by_cases g1 : X[i].toNat < 33
        · have Hr := Lib.hid (Hno.out (nameC_no (.inl g1)))
          have f1 : decide ((X[i].toNat : Int) < 33) = true := decide_eq_true (by omega)
          clear g1 Hno Hyes
          go_wp2
          go_ret
          exact ⟨by rw [Hr.out]; rfl, BA.out⟩
        · have f1 : decide ((X[i].toNat : Int) < 33) = false := decide_eq_false (by omega)
          by_cases g2 : 126 < X[i].toNat
          · have Hr := Lib.hid (Hno.out (nameC_no (.inr (.inl g2))))
            have f2 : decide ((126 : Int) < (X[i].toNat : Int)) = true := decide_eq_true (by omega)
            clear g1 g2 Hno Hyes
            go_wp2
            go_ret
            exact ⟨by rw [Hr.out]; rfl, BA.out⟩
          · have f2 : decide ((126 : Int) < (X[i].toNat : Int)) = false := decide_eq_false (by omega)
            by_cases g3 : X[i].toNat = 58
            · have Hr := Lib.hid (Hno.out (nameC_no (.inr (.inr g3))))
              have f3 : ((X[i].toNat : Int) == 58) = true := by rw [beq_iff_eq]; omega
              clear g1 g2 g3 Hno Hyes
              go_wp2
              go_ret
              exact ⟨by rw [Hr.out]; rfl, BA.out⟩
            · have Hr := Lib.hid (Hyes.out (nameC_yes (by omega) (by omega) g3))
              have f3 : ((X[i].toNat : Int) == 58) = false := by rw [beq_eq_false_iff_ne]; omega
              clear g1 g2 g3 Hno Hyes
              go_wp2
              go_round
              case rel => exact ⟨i + 1, by omega, by go_num, Hr⟩
              case measure => simp [intOf]; omega
      · have Hx : Hid (nameB X.data.toList = true) := Lib.hid (HA.out fun j h1 => hj.out j h1 (by omega))
        have HAY : Hid ((∀ i (hi : i < Y.size), bodyC Y[i] = true) → Y.data.toList.all bodyC = true) := Lib.hid fun h => all_bytes Y h
        have HNY : Hid (∀ i (hi : i < Y.size), bodyC Y[i] = false → bodyB Y.data.toList = false) := Lib.hid fun i hi h => by
          unfold bodyB
          rw [not_bytes Y i hi h, Bool.false_and]
        clear hj HA HN
        go_wp2
        go_loop [4, 5] (fun kv _ => ∃ k : Nat, k ≤ Y.size ∧ kv = .int .i64 k ∧ Hid (∀ j (ha : j < Y.size), j < k → bodyC Y[j] = true)) (fun kv _ => Y.size - (intOf kv).toNat)
        case atStart => exact ⟨0, by omega, rfl, Lib.hid (fun j _ h => by omega)⟩
        case round =>
          obtain ⟨k, hk, rfl, hj⟩ := hrel
          by_cases hkt : k < Y.size
          · have Hno := Lib.hid (HNY.out k hkt)
            have Hyes : Hid (bodyC Y[k] = true → ∀ j (ha : j < Y.size), j < k + 1 → bodyC Y[j] = true) := Lib.hid fun h j h1 h3 => by
              rcases Nat.lt_or_ge j k with h4 | h4
              · exact hj.out j h1 h4
              · obtain rfl : j = k := by omega
                exact h
            have hwr : IntKind.i64.wrap ((k : Int) + 1) = (k : Int) + 1 := by rw [IntWalk.i64_in _ (by omega)]
            clear hj
            by_cases hbad : Y[k].toNat = 0 ∨ Y[k].toNat = 10 ∨ Y[k].toNat = 13
            · have hbc : bodyC Y[k] = false := by
                unfold bodyC
                rw [decide_eq_false_iff_not]
                rintro ⟨h1, h2, h3⟩
                rcases hbad with h | h | h
                · exact h1 (UInt8.toNat_inj.1 h)
                · exact h2 (UInt8.toNat_inj.1 h)
                · exact h3 (UInt8.toNat_inj.1 h)
              have Hr := Lib.hid (Hno.out hbc)
              clear Hno Hyes hbc
              by_cases y0 : Y[k].toNat = 0
              · have f0 : ((Y[k].toNat : Int) == 0) = true := by rw [beq_iff_eq]; omega
                clear hbad y0
                go_wp2
                go_ret
                exact ⟨by rw [Hr.out, Bool.and_false]; rfl, BA.out⟩
              · have f0 : ((Y[k].toNat : Int) == 0) = false := by rw [beq_eq_false_iff_ne]; omega
                by_cases y1 : Y[k].toNat = 10
                · have f1 : ((Y[k].toNat : Int) == 10) = true := by rw [beq_iff_eq]; omega
                  clear hbad y0 y1
                  go_wp2
                  go_ret
                  exact ⟨by rw [Hr.out, Bool.and_false]; rfl, BA.out⟩
                · have f1 : ((Y[k].toNat : Int) == 10) = false := by rw [beq_eq_false_iff_ne]; omega
                  have f2 : ((Y[k].toNat : Int) == 13) = true := by rw [beq_iff_eq]; omega
                  clear hbad y0 y1
                  go_wp2
                  go_ret
                  exact ⟨by rw [Hr.out, Bool.and_false]; rfl, BA.out⟩
            · have hbc : bodyC Y[k] = true := by
                unfold bodyC
                rw [decide_eq_true_eq]
                exact ⟨fun e => hbad (.inl (by rw [e]; rfl)), fun e => hbad (.inr (.inl (by rw [e]; rfl))), fun e => hbad (.inr (.inr (by rw [e]; rfl)))⟩
              have Hr := Lib.hid (Hyes.out hbc)
              have f0 : ((Y[k].toNat : Int) == 0) = false := by rw [beq_eq_false_iff_ne]; omega
              have f1 : ((Y[k].toNat : Int) == 10) = false := by rw [beq_eq_false_iff_ne]; omega
              have f2 : ((Y[k].toNat : Int) == 13) = false := by rw [beq_eq_false_iff_ne]; omega
              clear Hno Hyes hbc hbad
              go_wp2
              go_round
              case rel => exact ⟨k + 1, by omega, by go_num, Hr⟩
              case measure => simp [intOf]; omega
          · have Hall : Hid (Y.data.toList.all bodyC = true) := Lib.hid (HAY.out fun j h1 => hj.out j h1 (by omega))
            clear hj HAY HNY
            obtain rfl : k = Y.size := by omega
            by_cases hz : Y.size = 0
            · have hq : ((Y.size : Int) == 0) = true := by rw [beq_iff_eq]; omega
              have Hr : Hid (bodyB Y.data.toList = true) := Lib.hid (by
                have : Y.data.toList = [] := List.eq_nil_of_length_eq_zero hz
                rw [this]
                rfl)
              clear hz
              go_wp2
              go_ret
              exact ⟨by rw [Hx.out, Hr.out]; rfl, BA.out⟩
            · have hq : ((Y.size : Int) == 0) = false := by rw [beq_eq_false_iff_ne]; omega
              have h0 : 0 < Y.size := by omega
              have hm1 : Y.size - 1 < Y.size := by omega
              obtain ⟨p, hp⟩ : ∃ p, blankH Y[0] = p := ⟨_, rfl⟩
              obtain ⟨q, hq2⟩ : ∃ q, blankH Y[Y.size - 1] = q := ⟨_, rfl⟩
              have Hr : Hid (bodyB Y.data.toList = (!p && !q)) := Lib.hid (by
                unfold bodyB
                rw [Hall.out, goes_firstR Y h0, goes_last Y hm1, hp, hq2, Bool.true_and])
              have hc0 : ∀ W, Calls Tryz.prog 88 #[.int .u8 (Y[0].toNat : Int)] W fun e w' => e = .returned (.bool p) ∧ w' = W := fun W => by
                have := r10blank_any Y[0] W
                rw [hp] at this
                exact this
              have hc1 : ∀ W, Calls Tryz.prog 88 #[.int .u8 (Y[Y.size - 1].toNat : Int)] W fun e w' => e = .returned (.bool q) ∧ w' = W := fun W => by
                have := r10blank_any Y[Y.size - 1] W
                rw [hq2] at this
                exact this
              have hwr : IntKind.i64.wrap ((Y.size : Int) - 1) = ((Y.size - 1 : Nat) : Int) := by rw [IntWalk.i64_in _ (by omega)]; omega
              have Hwr := Lib.hid hwr
              have HC1 := Lib.hid hc1
              clear hp hq2 Hall hz
              cases p with
              | true =>
                go_wp2_with (go_at_call 88; refine (hc0 _).mono ?_; rintro e w1 ⟨rfl, h9⟩; obtain rfl := h9.symm)
                go_ret
                exact ⟨by rw [Hx.out, Hr.out]; rfl, BA.out⟩
              | false =>
                cases q with
                | true =>
                  go_wp2_with (first | (go_at_call 88; refine (hc0 _).mono ?_; rintro e w1 ⟨rfl, h9⟩; obtain rfl := h9.symm) | (go_at_call 88; refine (hc1 _).mono ?_; rintro e w1 ⟨rfl, h9⟩; obtain rfl := h9.symm))
                  go_ret
                  exact ⟨by rw [Hx.out, Hr.out]; rfl, BA.out⟩
                | false =>
                  go_wp2_with (first | (go_at_call 88; refine (hc0 _).mono ?_; rintro e w1 ⟨rfl, h9⟩; obtain rfl := h9.symm) | (go_at_call 88; refine (hc1 _).mono ?_; rintro e w1 ⟨rfl, h9⟩; obtain rfl := h9.symm))
                  go_ret
                  exact ⟨by rw [Hx.out, Hr.out]; rfl, BA.out⟩
  · have Hr : Hid (nameB X.data.toList = false) := Lib.hid (by
      unfold nameB
      rw [bytes_len, decide_eq_false hsz]
      rfl)
    by_cases h0 : X.size < 1
    · clear hsz
      go_enter Tryz.func89, Tryz.ntmps89
      go_wp2
      go_ret
      exact ⟨by rw [Hr.out]; rfl, BA.out⟩
    · have h1 : 64 < X.size := by omega
      clear hsz
      go_enter Tryz.func89, Tryz.ntmps89
      go_wp2
      go_ret
      exact ⟨by rw [Hr.out]; rfl, BA.out⟩

set_option maxRecDepth 100000 in
set_option maxHeartbeats 4000000 in
theorem r10get_any (B : Nat) (v : Value) (l : List FieldH) (name : ByteArray) (w : World) (h : FieldsAt w B v l) (hB : B ≤ w.heap.size) (hsm : SmallF 1000000 l) (hn : name.size ≤ 1000000) :
    Calls Tryz.prog 60 #[v, .string name] w fun e w' => e = .returned (foundH (getH l name.data.toList)) ∧ Below w.heap.size w w' := by
  obtain ⟨ao, cap, rfl, hc1, hc2, hat⟩ := h
  have Hat := Lib.hid hat
  have Hsm := Lib.hid hsm
  obtain ⟨n, hnl⟩ : ∃ n, l.length = n := ⟨_, rfl⟩
  have Hn := Lib.hid hnl
  unfold maxLen at hc2
  rw [hnl] at hc1 ⊢
  clear hat hsm hnl
  go_enter Tryz.func60, Tryz.ntmps60
  go_wp2
  go_loopw [6] (fun iv wr => ∃ i : Nat, i ≤ n ∧ iv = .int .i64 i ∧ Hid (getH (l.drop i) name.data.toList = getH l name.data.toList) ∧ Below w.heap.size w wr) (fun iv _ => n - (intOf iv).toNat)
  case atStart => exact ⟨0, by omega, rfl, Lib.hid rfl, Below.refl _ _⟩
  case round =>
    obtain ⟨i, hi, rfl, hg, hbr⟩ := hrel
    by_cases hlt : i < n
    · have hil : i < l.length := by rw [Hn.out]; exact hlt
      obtain ⟨g, off, rfl, hgB, z0, z1⟩ := Hat.out i hil
      obtain ⟨s0, s1⟩ := Hsm.out _ (List.getElem_mem hil)
      have hg2 := hg.out
      rw [List.drop_eq_getElem_cons hil, get_cons] at hg2
      obtain ⟨f, hf⟩ : ∃ f, l[i] = f := ⟨_, rfl⟩
      rw [hf] at z0 z1 s0 s1 hg2
      obtain ⟨X, hX⟩ : ∃ X, textQ f.1 = X := ⟨_, rfl⟩
      obtain ⟨Y, hY⟩ : ∃ Y, textQ f.2 = Y := ⟨_, rfl⟩
      have hXs : X.size ≤ 1000000 := by rw [← hX]; exact s0
      have y0 := (hbr.cell (p := ⟨g, off + i * 2, none⟩) (by show g < w.heap.size; omega)).trans z0
      have y1 : ∀ W, Below wr.heap.size wr W → W.cell? ⟨g, off + i * 2 + 1, none⟩ = some (.string (textQ f.2)) := fun W hW => (hW.cell (p := ⟨g, off + i * 2 + 1, none⟩) (by show g < wr.heap.size; have := hbr.size; omega)).trans ((hbr.cell (p := ⟨g, off + i * 2 + 1, none⟩) (by show g < w.heap.size; omega)).trans z1)
      rw [hX] at y0
      rw [hY] at y1
      have Y1 := Lib.hid y1
      have hsa := r10same_any X name wr hXs hn
      rw [show X.data.toList = f.1 by rw [← hX]; rfl] at hsa
      have hwr : IntKind.i64.wrap ((i : Int) + 1) = (i : Int) + 1 := by rw [IntWalk.i64_in _ (by omega)]
      have HY := Lib.hid hY
      clear y1 z0 z1 s0 s1 hX hY hf hg hil
      cases hsm2 : sameH f.1 name.data.toList with
      | true =>
        rw [hsm2] at hsa hg2
        have Hg : Hid (some f.2 = getH l name.data.toList) := Lib.hid hg2
        clear hg2 hsm2
        go_wp2_with fail
        refine hsa.mono ?_
        rintro e w1 ⟨rfl, hw1⟩
        have y1 := Y1.out w1 hw1
        clear hsa
        go_wp2
        go_ret2
        exact ⟨by rw [← Hg.out, ← HY.out]; rfl, hbr.trans (hw1.mono hbr.size)⟩
      | false =>
        rw [hsm2] at hsa hg2
        have Hg : Hid (getH (l.drop (i + 1)) name.data.toList = getH l name.data.toList) := Lib.hid hg2
        clear hg2 hsm2
        go_wp2_with fail
        refine hsa.mono ?_
        rintro e w1 ⟨rfl, hw1⟩
        have hb1 := hbr.trans (hw1.mono hbr.size)
        clear hsa hw1 hbr y0
        go_wp2
        go_roundw
        case rel => exact ⟨i + 1, by omega, by go_num, Hg, hb1⟩
        case measure => simp [intOf]; omega
    · obtain rfl : i = n := by omega
      have Hg : Hid (none = getH l name.data.toList) := Lib.hid (by
        have := hg.out
        rw [List.drop_of_length_le (by rw [Hn.out]; exact Nat.le_refl _)] at this
        exact this)
      clear hg
      go_wp2
      go_ret2
      exact ⟨by rw [← Hg.out]; rfl, hbr⟩
end Go.Proofs.YtidlpdiephlkhaaGreatDoor
namespace Go.Proofs.YtidlpdiephlkhaaGreatDoor
open Go.RowKit

theorem cte_low : ([99, 111, 110, 116, 101, 110, 116, 45, 116, 114, 97, 110, 115, 102, 101, 114, 45, 101, 110, 99, 111, 100, 105, 110, 103] : TextH).map lowH = cteM.map lowH := by decide
set_option maxRecDepth 100000 in
set_option maxHeartbeats 2000000 in
theorem r13cod_any (B : Nat) (v : Value) (l : List FieldH) (w : World) (h : FieldsAt w B v l) (hB : B ≤ w.heap.size) (hsm : SmallF 1000000 l) :
    Calls Tryz.prog 62 #[v] w fun e w' => e = .returned (.int .i64 (codM l)) ∧ Below w.heap.size w w' := by
  have hg := r10get_any B v l ⟨#[99, 111, 110, 116, 101, 110, 116, 45, 116, 114, 97, 110, 115, 102, 101, 114, 45, 101, 110, 99, 111, 100, 105, 110, 103]⟩ w h hB hsm (by decide)
  rw [show (⟨#[99, 111, 110, 116, 101, 110, 116, 45, 116, 114, 97, 110, 115, 102, 101, 114, 45, 101, 110, 99, 111, 100, 105, 110, 103]⟩ : ByteArray).data.toList = [99, 111, 110, 116, 101, 110, 116, 45, 116, 114, 97, 110, 115, 102, 101, 114, 45, 101, 110, 99, 111, 100, 105, 110, 103] from rfl, get_name cte_low] at hg
  cases hq : getH l cteM with
  | none =>
    rw [hq] at hg
    have hg2 : Calls Tryz.prog 60 #[v, .string ⟨#[99, 111, 110, 116, 101, 110, 116, 45, 116, 114, 97, 110, 115, 102, 101, 114, 45, 101, 110, 99, 111, 100, 105, 110, 103]⟩] w fun e w' => e = .returned (.tuple #[.string ⟨#[]⟩, .bool false]) ∧ Below w.heap.size w w' := hg
    have e : codM l = 0 := by unfold codM; rw [hq]
    rw [e]
    clear e hg hq hsm h
    go_enter Tryz.func62, Tryz.ntmps62
    go_wp2_with (go_at_call 60; refine hg2.mono ?_; rintro e w1 ⟨rfl, hb⟩; have B1 := Lib.hid hb; clear hg2 hb)
    go_ret
    exact ⟨rfl, B1.out⟩
  | some b =>
    rw [hq] at hg
    have hbl := get_small hsm hq
    obtain ⟨S, hS⟩ : ∃ S, textQ b = S := ⟨_, rfl⟩
    have hSs : S.size ≤ 1000000 := by rw [← hS]; show b.length ≤ _; omega
    have hSd : S.data.toList = b := by rw [← hS]; rfl
    have hg2 : Calls Tryz.prog 60 #[v, .string ⟨#[99, 111, 110, 116, 101, 110, 116, 45, 116, 114, 97, 110, 115, 102, 101, 114, 45, 101, 110, 99, 111, 100, 105, 110, 103]⟩] w fun e w' => e = .returned (.tuple #[.string S, .bool true]) ∧ Below w.heap.size w w' := by rw [← hS]; exact hg
    have e : codM l = if sameH b bit7M = true ∨ sameH b bit8M = true then 0 else if sameH b base64M = true then 1 else if sameH b quotedM = true then 2 else 3 := by unfold codM; rw [hq]
    have hsame : ∀ (c : TextH) W, c.length ≤ 100 → Below w.heap.size w W → Calls Tryz.prog 43 #[.string S, .string (textQ c)] W fun e w' => e = .returned (.bool (sameH b c)) ∧ Below w.heap.size w w' := fun c W hc hW => by
      have := r10same_any S (textQ c) W hSs (by show c.length ≤ _; omega)
      rw [hSd] at this
      exact this.mono fun e w' ⟨h1, h2⟩ => ⟨h1, hW.trans (h2.mono hW.size)⟩
    have h7 : Hid (∀ W, Below w.heap.size w W → Calls Tryz.prog 43 #[.string S, .string ⟨#[55, 98, 105, 116]⟩] W fun e w' => e = .returned (.bool (sameH b bit7M)) ∧ Below w.heap.size w w') := Lib.hid fun W hW => hsame bit7M W (by decide) hW
    have h8 : Hid (∀ W, Below w.heap.size w W → Calls Tryz.prog 43 #[.string S, .string ⟨#[56, 98, 105, 116]⟩] W fun e w' => e = .returned (.bool (sameH b bit8M)) ∧ Below w.heap.size w w') := Lib.hid fun W hW => hsame bit8M W (by decide) hW
    have h64 : Hid (∀ W, Below w.heap.size w W → Calls Tryz.prog 43 #[.string S, .string ⟨#[98, 97, 115, 101, 54, 52]⟩] W fun e w' => e = .returned (.bool (sameH b base64M)) ∧ Below w.heap.size w w') := Lib.hid fun W hW => hsame base64M W (by decide) hW
    have hQ : Hid (∀ W, Below w.heap.size w W → Calls Tryz.prog 43 #[.string S, .string ⟨#[113, 117, 111, 116, 101, 100, 45, 112, 114, 105, 110, 116, 97, 98, 108, 101]⟩] W fun e w' => e = .returned (.bool (sameH b quotedM)) ∧ Below w.heap.size w w') := Lib.hid fun W hW => hsame quotedM W (by decide) hW
    rw [e]
    obtain ⟨b7, e7⟩ : ∃ x, sameH b bit7M = x := ⟨_, rfl⟩
    obtain ⟨b8, e8⟩ : ∃ x, sameH b bit8M = x := ⟨_, rfl⟩
    obtain ⟨b64, e64⟩ : ∃ x, sameH b base64M = x := ⟨_, rfl⟩
    obtain ⟨bq, eq⟩ : ∃ x, sameH b quotedM = x := ⟨_, rfl⟩
    rw [e7] at h7 ⊢
    rw [e8] at h8 ⊢
    rw [e64] at h64 ⊢
    rw [eq] at hQ ⊢
    obtain ⟨R, hR⟩ : ∃ R, (if b7 = true ∨ b8 = true then 0 else if b64 = true then 1 else if bq = true then 2 else 3) = R := ⟨_, rfl⟩
    rw [hR]
    clear e hg hq hsm h hbl hS hSs hSd hsame e7 e8 e64 eq
    cases b7 with
    | true =>
      obtain rfl : R = 0 := by rw [← hR]; simp
      clear hR
      go_enter Tryz.func62, Tryz.ntmps62
      go_wp2_with (go_at_call 60; refine hg2.mono ?_; rintro e w1 ⟨rfl, hb⟩; have B1 := Lib.hid hb; clear hg2 hb; refine HeldW.of ?_)
      unfold HeldW
      go_wp2_with (go_at_call 43; refine (h7.out _ B1.out).mono ?_; rintro e w2 ⟨rfl, hb⟩; have B2 := Lib.hid hb; clear hb)
      go_ret
      exact ⟨rfl, B2.out⟩
    | false =>
      cases b8 with
      | true =>
        obtain rfl : R = 0 := by rw [← hR]; simp
        clear hR
        go_enter Tryz.func62, Tryz.ntmps62
        go_wp2_with (go_at_call 60; refine hg2.mono ?_; rintro e w1 ⟨rfl, hb⟩; have B1 := Lib.hid hb; clear hg2 hb; refine HeldW.of ?_)
        unfold HeldW
        go_wp2_with (go_at_call 43; refine (h7.out _ B1.out).mono ?_; rintro e w2 ⟨rfl, hb⟩; have B2 := Lib.hid hb; clear hb; refine HeldW.of ?_)
        unfold HeldW
        go_wp2_with (go_at_call 43; refine (h8.out _ B2.out).mono ?_; rintro e w3 ⟨rfl, hb⟩; have B3 := Lib.hid hb; clear hb)
        go_ret
        exact ⟨rfl, B3.out⟩
      | false =>
        cases b64 with
        | true =>
          obtain rfl : R = 1 := by rw [← hR]; simp
          clear hR
          go_enter Tryz.func62, Tryz.ntmps62
          go_wp2_with (go_at_call 60; refine hg2.mono ?_; rintro e w1 ⟨rfl, hb⟩; have B1 := Lib.hid hb; clear hg2 hb; refine HeldW.of ?_)
          unfold HeldW
          go_wp2_with (go_at_call 43; refine (h7.out _ B1.out).mono ?_; rintro e w2 ⟨rfl, hb⟩; have B2 := Lib.hid hb; clear hb; refine HeldW.of ?_)
          unfold HeldW
          go_wp2_with (go_at_call 43; refine (h8.out _ B2.out).mono ?_; rintro e w3 ⟨rfl, hb⟩; have B3 := Lib.hid hb; clear hb; refine HeldW.of ?_)
          unfold HeldW
          go_wp2_with (go_at_call 43; refine (h64.out _ B3.out).mono ?_; rintro e w4 ⟨rfl, hb⟩; have B4 := Lib.hid hb; clear hb)
          go_ret
          exact ⟨rfl, B4.out⟩
        | false =>
          cases bq with
          | true =>
            obtain rfl : R = 2 := by rw [← hR]; simp
            clear hR
            go_enter Tryz.func62, Tryz.ntmps62
            go_wp2_with (go_at_call 60; refine hg2.mono ?_; rintro e w1 ⟨rfl, hb⟩; have B1 := Lib.hid hb; clear hg2 hb; refine HeldW.of ?_)
            unfold HeldW
            go_wp2_with (go_at_call 43; refine (h7.out _ B1.out).mono ?_; rintro e w2 ⟨rfl, hb⟩; have B2 := Lib.hid hb; clear hb; refine HeldW.of ?_)
            unfold HeldW
            go_wp2_with (go_at_call 43; refine (h8.out _ B2.out).mono ?_; rintro e w3 ⟨rfl, hb⟩; have B3 := Lib.hid hb; clear hb; refine HeldW.of ?_)
            unfold HeldW
            go_wp2_with (go_at_call 43; refine (h64.out _ B3.out).mono ?_; rintro e w4 ⟨rfl, hb⟩; have B4 := Lib.hid hb; clear hb; refine HeldW.of ?_)
            unfold HeldW
            go_wp2_with (go_at_call 43; refine (hQ.out _ B4.out).mono ?_; rintro e w5 ⟨rfl, hb⟩; have B5 := Lib.hid hb; clear hb)
            go_ret
            exact ⟨rfl, B5.out⟩
          | false =>
            obtain rfl : R = 3 := by rw [← hR]; simp
            clear hR
            go_enter Tryz.func62, Tryz.ntmps62
            go_wp2_with (go_at_call 60; refine hg2.mono ?_; rintro e w1 ⟨rfl, hb⟩; have B1 := Lib.hid hb; clear hg2 hb; refine HeldW.of ?_)
            unfold HeldW
            go_wp2_with (go_at_call 43; refine (h7.out _ B1.out).mono ?_; rintro e w2 ⟨rfl, hb⟩; have B2 := Lib.hid hb; clear hb; refine HeldW.of ?_)
            unfold HeldW
            go_wp2_with (go_at_call 43; refine (h8.out _ B2.out).mono ?_; rintro e w3 ⟨rfl, hb⟩; have B3 := Lib.hid hb; clear hb; refine HeldW.of ?_)
            unfold HeldW
            go_wp2_with (go_at_call 43; refine (h64.out _ B3.out).mono ?_; rintro e w4 ⟨rfl, hb⟩; have B4 := Lib.hid hb; clear hb; refine HeldW.of ?_)
            unfold HeldW
            go_wp2_with (go_at_call 43; refine (hQ.out _ B4.out).mono ?_; rintro e w5 ⟨rfl, hb⟩; have B5 := Lib.hid hb; clear hb)
            go_ret
            exact ⟨rfl, B5.out⟩
end Go.Proofs.YtidlpdiephlkhaaGreatDoor
