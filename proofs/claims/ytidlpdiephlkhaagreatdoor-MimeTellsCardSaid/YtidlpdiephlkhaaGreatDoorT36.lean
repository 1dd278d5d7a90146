/-
  Texts of this proof, put together: R12A, R12B.
-/
import Derived.Test.YtidlpdiephlkhaaGreatDoorT27
import Derived.LoopIn
import Derived.Deep.LoopGhost
namespace Go.Proofs.YtidlpdiephlkhaaGreatDoor
open Go.RowKit

theorem all_bytesC {p : UInt8 → Bool} (s : ByteArray) (h : ∀ i (hi : i < s.size), p s[i] = true) : s.data.toList.all p = true := by
  rw [List.all_eq_true]
  intro c hc
  obtain ⟨i, hi, rfl⟩ := List.mem_iff_getElem.1 hc
  exact h i (by simpa using hi)
theorem not_bytesC {p : UInt8 → Bool} (s : ByteArray) (i : Nat) (hi : i < s.size) (h : p s[i] = false) : s.data.toList.all p = false := by
  rw [List.all_eq_false]
  exact ⟨s[i], by
    have : s[i] = s.data.toList[i]'(by simpa using hi) := rfl
    rw [this]
    exact List.getElem_mem _, by rw [h]; simp⟩
theorem cons_atC (s : ByteArray) (i : Nat) (hi : i < s.size) : s.data.toList.drop i = s[i] :: s.data.toList.drop (i + 1) := List.drop_eq_getElem_cons (by show i < s.size; exact hi)
set_option maxRecDepth 100000 in
set_option maxHeartbeats 2000000 in
theorem r12letter_any (c : UInt8) (w : World) : Calls Tryz.prog 92 #[.int .u8 (c.toNat : Int)] w fun e w' => e = .returned (.bool (tokC c)) ∧ w' = w := by
  unfold tokC
  rcases low_casesC c with ⟨h1, e⟩ | ⟨h1, h2, e⟩ | ⟨h1, h2, h3, e⟩ | ⟨h1, h2, e⟩ | ⟨h1, h2, h3, h4, e⟩
  rotate_left 1
  · rw [e, Bool.true_or]
    clear e
    go_enter Tryz.func92, Tryz.ntmps92
    go_wp2
    go_ret
    exact ⟨rfl, rfl⟩
  rotate_left 1
  · rw [e, Bool.true_or]
    clear e
    go_enter Tryz.func92, Tryz.ntmps92
    go_wp2
    go_ret
    exact ⟨rfl, rfl⟩
  all_goals
    rw [e, Bool.false_or]
    clear e
    obtain ⟨R, hR⟩ : ∃ R, marksC.contains c = R := ⟨_, rfl⟩
    rw [hR]
    have HR : Hid ((marksC.drop 0).contains c = R) := Lib.hid hR
    clear hR
    go_enter Tryz.func92, Tryz.ntmps92
    go_wp2
    go_loop [3] (fun iv => ∃ i : Nat, i ≤ 9 ∧ iv = .int .i64 i ∧ Hid ((marksC.drop i).contains c = R)) (fun iv => 9 - (intOf iv).toNat)
    case atStart => exact ⟨0, by omega, rfl, HR⟩
    case round =>
      obtain ⟨i, hi, rfl, hc⟩ := hrel
      clear HR
      by_cases hlt : i < 9
      · have hsz : i < marksC.length := hlt
        have hc2 := hc.out
        rw [List.drop_eq_getElem_cons hsz, List.contains_cons] at hc2
        have hix : ((⟨#[33, 35, 36, 38, 45, 94, 95, 46, 43]⟩ : ByteArray)[i]'(by show i < 9; exact hlt)) = marksC[i] := rfl
        obtain ⟨d, hd⟩ : ∃ d, marksC[i] = d := ⟨_, rfl⟩
        rw [hd] at hc2 hix
        by_cases hq : c = d
        · have hn : ((((⟨#[33, 35, 36, 38, 45, 94, 95, 46, 43]⟩ : ByteArray)[i]'(by show i < 9; exact hlt)).toNat : Int) == (c.toNat : Int)) = true := by rw [hix, hq, beq_iff_eq]
          have hRt : true = R := by rw [← hc2, hq]; simp
          have HRt := Lib.hid hRt
          clear hc2 hd hq hRt hc hix
          go_wp2
          go_ret
          exact ⟨by rw [← HRt.out]; rfl, rfl⟩
        · have hn : ((((⟨#[33, 35, 36, 38, 45, 94, 95, 46, 43]⟩ : ByteArray)[i]'(by show i < 9; exact hlt)).toNat : Int) == (c.toNat : Int)) = false := by
            rw [hix, beq_eq_false_iff_ne]
            exact fun e => hq (UInt8.toNat_inj.1 (by omega))
          have Hn : Hid ((marksC.drop (i + 1)).contains c = R) := Lib.hid (by
            rw [← hc2, beq_eq_false_iff_ne.2 hq, Bool.false_or])
          clear hc2 hd hq hc hix
          go_wp2
          go_round
          case rel => exact ⟨i + 1, by omega, by go_num, Hn⟩
          case measure => simp [intOf]; omega
      · have hc2 := hc.out
        rw [List.drop_of_length_le (by show 9 ≤ i; omega)] at hc2
        have HRt : Hid (false = R) := Lib.hid hc2
        clear hc2 hc
        go_wp2
        go_ret
        exact ⟨by rw [← HRt.out]; rfl, rfl⟩

set_option maxRecDepth 100000 in
set_option maxHeartbeats 2000000 in
theorem r12token_any (s : ByteArray) (w : World) (hs : s.size ≤ 1000000000) : Calls Tryz.prog 93 #[.string s] w fun e w' => e = .returned (.bool (tokT s.data.toList)) ∧ w' = w := by
  have hyes : (∀ i (hi : i < s.size), tokC s[i] = true) → tokT s.data.toList = (decide (1 ≤ s.size) && decide (s.size ≤ 64)) := fun h => by
    unfold tokT
    rw [all_bytesC s h, Bool.and_true]
    rfl
  have hno : ∀ i (hi : i < s.size), tokC s[i] = false → tokT s.data.toList = false := fun i hi h => by
    unfold tokT
    rw [not_bytesC s i hi h, Bool.and_false, Bool.and_false]
  have HY := Lib.hid hyes
  have HN := Lib.hid hno
  clear hyes hno
  go_enter Tryz.func93, Tryz.ntmps93
  go_wp2
  go_loop [3] (fun iv => ∃ i : Nat, i ≤ s.size ∧ iv = .int .i64 i ∧ Hid (∀ j (ha : j < s.size), j < i → tokC s[j] = true)) (fun iv => s.size - (intOf iv).toNat)
  case atStart => exact ⟨0, by omega, rfl, Lib.hid (fun j _ h => by omega)⟩
  case round =>
    obtain ⟨i, hi, rfl, hj⟩ := hrel
    by_cases hlt : i < s.size
    · have Hno := Lib.hid (HN.out i hlt)
      have Hyes : Hid (tokC s[i] = true → ∀ j (ha : j < s.size), j < i + 1 → tokC s[j] = true) := Lib.hid fun h j h1 h3 => by
        rcases Nat.lt_or_ge j i with h4 | h4
        · exact hj.out j h1 h4
        · obtain rfl : j = i := by omega
          exact h
      have hq := fun W => r12letter_any s[i] W
      obtain ⟨b, hb⟩ : ∃ b, tokC s[i] = b := ⟨_, rfl⟩
      rw [hb] at Hno Hyes
      simp only [hb] at hq
      clear hb hj HY HN
      cases b with
      | true =>
        have Hy := Lib.hid (Hyes.out rfl)
        clear Hno Hyes
        go_wp2_with (go_at_call 92; refine (hq _).mono ?_; rintro e w1 ⟨rfl, h9⟩; obtain rfl := h9.symm)
        go_round
        case rel => exact ⟨i + 1, by omega, by go_num, Hy⟩
        case measure => simp [intOf]; omega
      | false =>
        have Hn := Lib.hid (Hno.out rfl)
        clear Hno Hyes
        go_wp2_with (go_at_call 92; refine (hq _).mono ?_; rintro e w1 ⟨rfl, h9⟩; obtain rfl := h9.symm)
        go_ret
        exact ⟨by rw [Hn.out]; rfl, rfl⟩
    · obtain rfl : i = s.size := by omega
      have Hy := Lib.hid (HY.out (fun j hj2 => hj.out j hj2 hj2))
      clear hj HY HN
      by_cases h1 : 1 ≤ s.size
      · have Hy2 : Hid (tokT s.data.toList = decide ((s.size : Int) ≤ 64)) := Lib.hid (by
          rw [Hy.out, decide_eq_true h1, Bool.true_and]
          exact decide_eq_decide.2 (by omega))
        clear Hy
        go_wp2
        go_ret
        exact ⟨by rw [Hy2.out]; rfl, rfl⟩
      · have Hy2 : Hid (tokT s.data.toList = false) := Lib.hid (by rw [Hy.out, decide_eq_false h1, Bool.false_and])
        clear Hy
        go_wp2
        go_ret
        exact ⟨by rw [Hy2.out]; rfl, rfl⟩
end Go.Proofs.YtidlpdiephlkhaaGreatDoor
namespace Go.Proofs.YtidlpdiephlkhaaGreatDoor
open Go.RowKit

theorem pars_prefix (a : List ParC) : ∀ b : List ParC, parsC (a ++ b) = true → parsC a = true
  | [], h => by rwa [List.append_nil] at h
  | p :: b, h => by
    have e : a ++ p :: b = (a ++ [p]) ++ b := by simp
    rw [e] at h
    have := pars_prefix (a ++ [p]) b h
    rw [pars_snoc] at this
    simp only [Bool.and_eq_true] at this
    exact this.1
theorem pars_take {l : List ParC} (k : Nat) (h : parsC (l.take k) = false) : parsC l = false := by
  cases hl : parsC l with
  | false => rfl
  | true =>
    rw [← List.take_append_drop k l] at hl
    rw [pars_prefix _ _ hl] at h
    cases h
theorem pars_take_succ (l : List ParC) (i : Nat) (h : i < l.length) : parsC (l.take (i + 1)) = (parsC (l.take i) && (tokT l[i].1 && (valT l[i].2 && !(hasC (l.take i) l[i].1)))) := by
  rw [List.take_succ_eq_append_getElem h, pars_snoc]
theorem has_none {l : List ParC} {i : Nat} (hi : i ≤ l.length) {n : TextA} (h : ∀ j (hj : j < l.length), j < i → l[j].1 ≠ n) : hasC (l.take i) n = false := by
  cases hh : hasC (l.take i) n with
  | false => rfl
  | true =>
    obtain ⟨p, hp, e⟩ := (has_iff _ _).1 hh
    obtain ⟨j, hj, rfl⟩ := List.mem_iff_getElem.1 hp
    rw [List.length_take] at hj
    rw [List.getElem_take] at e
    exact absurd e (h j (by omega) (by omega))
theorem has_some {l : List ParC} {i k : Nat} (hk : k < l.length) (hki : k < i) {n : TextA} (h : l[k].1 = n) : hasC (l.take i) n = true :=
  (has_iff _ _).2 ⟨l[k], List.mem_iff_getElem.2 ⟨k, by rw [List.length_take]; omega, by rw [List.getElem_take]⟩, h⟩

set_option maxRecDepth 100000 in
set_option maxHeartbeats 8000000 in
theorem r12right_any (B : Nat) (v : Value) (t : TypeC) (w : World) (h : ParsAt w B v t.2.2) (hB : B ≤ w.heap.size) (hs1 : t.1.length ≤ 1000000000) (hs2 : t.2.1.length ≤ 1000000000) (hs : ∀ p ∈ t.2.2, p.1.length ≤ 1000000000 ∧ p.2.length ≤ 1000000000) :
    Calls Tryz.prog 94 #[typeV t v] w fun e w' => e = .returned (.bool (rightC t)) ∧ Below w.heap.size w w' := by
  obtain ⟨ao, cap, rfl, hc1, hc2⟩ := h.slice
  have h1 := fun W => r12token_any (textQ t.1) W hs1
  have h2 := fun W => r12token_any (textQ t.2.1) W hs2
  simp only [show (textQ t.1).data.toList = t.1 from rfl, show (textQ t.2.1).data.toList = t.2.1 from rfl] at h1 h2
  have Hat : Hid (∀ W, Below w.heap.size w W → ∀ i (hi : i < t.2.2.length), ∃ g off, ao = some ⟨g, off, none⟩ ∧ g < B ∧ W.cell? ⟨g, off + i * 2, none⟩ = some (.string (textQ t.2.2[i].1)) ∧ W.cell? ⟨g, off + i * 2 + 1, none⟩ = some (.string (textQ t.2.2[i].2))) := Lib.hid fun W hW i hi => by
    obtain ⟨ao2, cap2, e, _, _, h4⟩ := h.below hW hB
    cases e
    exact h4 i hi
  have HS := Lib.hid hs
  unfold typeV
  unfold maxLen at hc2
  obtain ⟨R, hR⟩ : ∃ R, rightC t = R := ⟨_, rfl⟩
  rw [hR]
  obtain ⟨X, hX⟩ : ∃ X, textQ t.1 = X := ⟨_, rfl⟩
  obtain ⟨Y, hY⟩ : ∃ Y, textQ t.2.1 = Y := ⟨_, rfl⟩
  obtain ⟨n, hn⟩ : ∃ n, t.2.2.length = n := ⟨_, rfl⟩
  obtain ⟨b1, hb1⟩ : ∃ b, tokT t.1 = b := ⟨_, rfl⟩
  obtain ⟨b2, hb2⟩ : ∃ b, tokT t.2.1 = b := ⟨_, rfl⟩
  simp only [hX, hb1] at h1
  simp only [hY, hb2] at h2
  rw [hn] at hc1
  rw [hX, hY, hn]
  have hrr : R = (b1 && (b2 && (decide (n ≤ 8) && parsC t.2.2))) := by
    rw [← hR, ← hb1, ← hb2, ← hn]
    rfl
  have HR := Lib.hid hrr
  have HN := Lib.hid hn
  obtain ⟨w0, hw0⟩ : ∃ w0, w.alloc (.cells #[.string X, .string Y, .slice ao n cap] 26) = w0 := ⟨_, rfl⟩
  have b0 : Below w.heap.size w w0 := by rw [← hw0]; exact (Below.refl _ _).alloc (Nat.le_refl _) _
  have t0 : TypAt w0 w.heap.size X Y ao n cap := by rw [← hw0]; exact typ_new w _ _ _ _ _
  obtain ⟨c0, c1, c2, _⟩ := t0.cells
  have K0 := Lib.hid (And.intro b0 t0)
  have step : Hid (∀ W W', (Below w.heap.size w W ∧ TypAt W w.heap.size X Y ao n cap) → Below W.heap.size W W' → (Below w.heap.size w W' ∧ TypAt W' w.heap.size X Y ao n cap)) := Lib.hid fun W W' ⟨h1, h2⟩ hb => ⟨h1.trans (hb.mono h1.size), h2.below hb⟩
  clear h hs hR hX hY hn hb1 hb2 hrr b0 t0 hs1 hs2
  cases b1 with
  | false =>
    have Hf : Hid (R = false) := Lib.hid (by rw [HR.out]; rfl)
    clear HR
    go_enter Tryz.func94, Tryz.ntmps94
    go_wp2_with (go_at_call 93; refine (h1 _).mono ?_; rintro e w1 ⟨rfl, h9⟩; obtain rfl := h9.symm)
    go_ret
    exact ⟨by rw [Hf.out]; rfl, K0.out.1⟩
  | true =>
    cases b2 with
    | false =>
      have Hf : Hid (R = false) := Lib.hid (by rw [HR.out]; rfl)
      clear HR
      go_enter Tryz.func94, Tryz.ntmps94
      go_wp2_with (first | (go_at_call 93; (with_reducible refine (h1 _).mono ?_); rintro e w1 ⟨rfl, h9⟩; obtain rfl := h9.symm) | (go_at_call 93; (with_reducible refine (h2 _).mono ?_); rintro e w1 ⟨rfl, h9⟩; obtain rfl := h9.symm))
      go_ret
      exact ⟨by rw [Hf.out]; rfl, K0.out.1⟩
    | true =>
      by_cases h8 : n ≤ 8
      · have HR2 : Hid (R = parsC t.2.2) := Lib.hid (by rw [HR.out, decide_eq_true h8]; simp)
        clear HR
        go_enter Tryz.func94, Tryz.ntmps94
        go_wp2_with (first | (go_at_call 93; (with_reducible refine (h1 _).mono ?_); rintro e w1 ⟨rfl, h9⟩; obtain rfl := h9.symm) | (go_at_call 93; (with_reducible refine (h2 _).mono ?_); rintro e w1 ⟨rfl, h9⟩; obtain rfl := h9.symm))
        clear h1 h2 c0 c1 c2
        go_loopw [3] (fun iv wr => ∃ i : Nat, i ≤ n ∧ iv = .int .i64 i ∧ Hid (parsC (t.2.2.take i) = true) ∧ Hid (Below w.heap.size w wr ∧ TypAt wr w.heap.size X Y ao n cap)) (fun iv _ => n - (intOf iv).toNat)
        case atStart => exact ⟨0, by omega, rfl, Lib.hid rfl, K0⟩
        case round =>
          obtain ⟨i, hi, rfl, hp, hk⟩ := hrel
          clear K0
          obtain ⟨kb, kt⟩ := hk.out
          obtain ⟨c0, c1, c2, _⟩ := kt.cells
          by_cases hlt : i < n
          · have hil : i < t.2.2.length := by rw [HN.out]; exact hlt
            obtain ⟨g, off, rfl, hgB, y0, y1⟩ := Hat.out wr kb i hil
            obtain ⟨m1, m2⟩ := HS.out _ (List.getElem_mem hil)
            have hsn := pars_take_succ t.2.2 i hil
            rw [hp.out, Bool.true_and] at hsn
            have hno : Hid (parsC (t.2.2.take (i + 1)) = false → R = false) := Lib.hid fun h => by rw [HR2.out]; exact pars_take _ h
            have hdup : Hid (∀ k (hk : k < t.2.2.length), k < i → t.2.2[k].1 = t.2.2[i].1 → hasC (t.2.2.take i) t.2.2[i].1 = true) := Lib.hid fun k hk hki e => has_some hk hki e
            have hnod : Hid ((∀ j (hj : j < t.2.2.length), j < i → t.2.2[j].1 ≠ t.2.2[i].1) → hasC (t.2.2.take i) t.2.2[i].1 = false) := Lib.hid fun h => has_none (Nat.le_of_lt hil) h
            obtain ⟨f, hf⟩ : ∃ f, t.2.2[i] = f := ⟨_, rfl⟩
            rw [hf] at y0 y1 m1 m2 hsn hdup hnod
            have htk := fun W => r12token_any (textQ f.1) W m1
            simp only [show (textQ f.1).data.toList = f.1 from rfl] at htk
            obtain ⟨N, hN⟩ : ∃ X, textQ f.1 = X := ⟨_, rfl⟩
            obtain ⟨V, hV⟩ : ∃ X, textQ f.2 = X := ⟨_, rfl⟩
            have hVd : V.data.toList = f.2 := by rw [← hV]; rfl
            have hVs : V.size = f.2.length := by rw [← hV]; rfl
            rw [hN] at y0
            rw [hV] at y1
            simp only [hN] at htk
            obtain ⟨bt, hbt⟩ : ∃ b, tokT f.1 = b := ⟨_, rfl⟩
            rw [hbt] at hsn
            simp only [hbt] at htk
            have K := Lib.hid (show Below w.heap.size w wr ∧ TypAt wr w.heap.size X Y (some ⟨g, off, none⟩) n cap from ⟨kb, kt⟩)
            have HNq := Lib.hid (And.intro hN (And.intro hVd hVs))
            have hV9 : V.size ≤ 1000000000 := by omega
            clear hk kb kt hN hV hVd hVs m1 m2 hp hbt
            cases bt with
            | false =>
              have Hf := Lib.hid (hno.out (by rw [hsn]; rfl))
              clear hsn hno
              go_wp2_with (go_at_call 93; refine (htk _).mono ?_; rintro e w1 ⟨rfl, h9⟩; obtain rfl := h9.symm)
              go_ret
              exact ⟨by rw [Hf.out]; rfl, K.out.1⟩
            | true =>
              by_cases h70 : 70 < V.size
              · have Hf := Lib.hid (hno.out (by
                  rw [hsn]
                  have : valT f.2 = false := by unfold valT; rw [decide_eq_false (by have := HNq.out.2.2; omega), Bool.false_and]
                  rw [this]
                  rfl))
                clear hsn hno
                go_wp2_with (go_at_call 93; refine (htk _).mono ?_; rintro e w1 ⟨rfl, h9⟩; obtain rfl := h9.symm)
                go_ret
                exact ⟨by rw [Hf.out]; rfl, K.out.1⟩
              · have hvt : valT f.2 = f.2.all nameCA := by unfold valT; rw [decide_eq_true (by have := HNq.out.2.2; omega), Bool.true_and]
                rw [hvt, Bool.true_and] at hsn
                have Hsn := Lib.hid hsn
                clear hsn hvt
                go_wp2_with (go_at_call 93; refine (htk _).mono ?_; rintro e w1 ⟨rfl, h9⟩; obtain rfl := h9.symm)
                clear htk
                go_loopw [4] (fun kv wx => ∃ k : Nat, k ≤ V.size ∧ kv = .int .i64 k ∧ Hid (∀ j (ha : j < V.size), j < k → nameCA V[j] = true) ∧ wx = wr) (fun kv _ => V.size - (intOf kv).toNat)
                case atStart => exact ⟨0, by omega, rfl, Lib.hid (fun j _ h => by omega), (by first | rfl | trivial)⟩
                case round =>
                  obtain ⟨k, hk, rfl, hall, hwx⟩ := hrel
                  subst hwx
                  by_cases hkl : k < V.size
                  · have Hyes : Hid (nameCA V[k] = true → ∀ j (ha : j < V.size), j < k + 1 → nameCA V[j] = true) := Lib.hid fun h j h1 h3 => by
                      rcases Nat.lt_or_ge j k with h4 | h4
                      · exact hall.out j h1 h4
                      · obtain rfl : j = k := by omega
                        exact h
                    have Hbad : Hid (nameCA V[k] = false → R = false) := Lib.hid fun h => hno.out (by
                      rw [Hsn.out, ← HNq.out.2.1, not_bytesC V k hkl h]
                      rfl)
                    obtain ⟨c, hc⟩ : ∃ c, V[k] = c := ⟨_, rfl⟩
                    rw [hc] at Hyes Hbad
                    have hcn : (V[k].toNat : Int) = c.toNat := by rw [hc]
                    clear hall
                    by_cases g1 : 32 ≤ c.toNat
                    · by_cases g2 : c.toNat ≤ 126
                      · have Hy := Lib.hid (Hyes.out (by unfold nameCA; exact decide_eq_true ⟨g1, g2⟩))
                        have f1 : ¬ (V[k].toNat : Int) < 32 := by rw [hcn]; omega
                        have f2 : ¬ (126 : Int) < (V[k].toNat : Int) := by rw [hcn]; omega
                        clear Hyes Hbad hc hcn
                        go_wp2
                        go_roundw
                        case rel => exact ⟨k + 1, by omega, by go_num, Hy, (by first | rfl | trivial)⟩
                        case measure => simp [intOf]; omega
                      · have Hf := Lib.hid (Hbad.out (by unfold nameCA; exact decide_eq_false (fun h => g2 h.2)))
                        have f1 : ¬ (V[k].toNat : Int) < 32 := by rw [hcn]; omega
                        have f2 : (126 : Int) < (V[k].toNat : Int) := by rw [hcn]; omega
                        clear Hyes Hbad hc hcn
                        go_wp2
                        go_ret
                        exact ⟨by rw [Hf.out]; rfl, K.out.1⟩
                    · have Hf := Lib.hid (Hbad.out (by unfold nameCA; exact decide_eq_false (fun h => g1 h.1)))
                      have f1 : (V[k].toNat : Int) < 32 := by rw [hcn]; omega
                      clear Hyes Hbad hc hcn
                      go_wp2
                      go_ret
                      exact ⟨by rw [Hf.out]; rfl, K.out.1⟩
                  · obtain rfl : k = V.size := by omega
                    have hva : f.2.all nameCA = true := by
                      rw [← HNq.out.2.1]
                      exact all_bytesC V (fun j hj => hall.out j hj hj)
                    have hsn2 := Hsn.out
                    rw [hva, Bool.true_and] at hsn2
                    have Hsn2 := Lib.hid hsn2
                    clear hsn2 hva hall Hsn
                    go_wp2
                    go_loopw [6] (fun kv wx => ∃ k : Nat, k ≤ i ∧ kv = .int .i64 k ∧ Hid (∀ j (hj : j < t.2.2.length), j < k → t.2.2[j].1 ≠ f.1) ∧ Hid (Below w.heap.size w wx ∧ TypAt wx w.heap.size X Y (some ⟨g, off, none⟩) n cap)) (fun kv _ => i - (intOf kv).toNat)
                    case atStart => exact ⟨0, by omega, rfl, Lib.hid (fun j _ h => by omega), K⟩
                    case round =>
                      obtain ⟨k, hk, rfl, hne, hk2⟩ := hrel
                      clear K
                      obtain ⟨c0, c1, c2, _⟩ := hk2.out.2.cells
                      have hzi : Hid (∀ W, Below w.heap.size w W → W.cell? ⟨g, off + i * 2, none⟩ = some (.string N)) := Lib.hid fun W hW => by
                        obtain ⟨g2, off2, e2, _, q0, _⟩ := Hat.out W hW i hil
                        cases e2
                        rw [hf, HNq.out.1] at q0
                        exact q0
                      by_cases hki : k < i
                      · have hkl : k < t.2.2.length := by omega
                        obtain ⟨g2, off2, e2, _, x0, _⟩ := Hat.out wr hk2.out.1 k hkl
                        cases e2
                        have xi := hzi.out wr hk2.out.1
                        have Hyes : Hid (t.2.2[k].1 ≠ f.1 → ∀ j (hj : j < t.2.2.length), j < k + 1 → t.2.2[j].1 ≠ f.1) := Lib.hid fun h j hj h3 => by
                          rcases Nat.lt_or_ge j k with h4 | h4
                          · exact hne.out j hj h4
                          · obtain rfl : j = k := by omega
                            exact h
                        have Hbad : Hid (t.2.2[k].1 = f.1 → R = false) := Lib.hid fun h => hno.out (by
                          rw [Hsn2.out, hdup.out k hkl hki h]
                          rfl)
                        obtain ⟨q, hq⟩ : ∃ q, t.2.2[k] = q := ⟨_, rfl⟩
                        rw [hq] at x0 Hyes Hbad
                        obtain ⟨Q, hQ⟩ : ∃ X, textQ q.1 = X := ⟨_, rfl⟩
                        have heq : (Q.toList == N.toList) = (q.1 == f.1) := by rw [← hQ, ← HNq.out.1, str_eqC]
                        rw [hQ] at x0
                        have hkk : (k : Int) < (n : Int) := by omega
                        have hii : (i : Int) < (n : Int) := by omega
                        clear hq hQ hne hzi
                        cases he : (q.1 == f.1) with
                        | true =>
                          rw [he] at heq
                          have Hf := Lib.hid (Hbad.out (by simpa using he))
                          clear Hyes Hbad he
                          go_wp2_with fail
                          go_quiet (fail)
                          have hb9 := (step.out _ _ hk2.out (below_drewN (Below.refl wr.heap.size wr) nq)).1
                          go_wp2
                          go_ret
                          exact ⟨by rw [Hf.out]; rfl, hb9⟩
                        | false =>
                          rw [he] at heq
                          have Hy := Lib.hid (Hyes.out (beq_eq_false_iff_ne.1 he))
                          clear Hyes Hbad he
                          go_wp2_with fail
                          go_quiet (fail)
                          have hb9 := Lib.hid (step.out _ _ hk2.out (below_drewN (Below.refl wr.heap.size wr) nq))
                          clear hk2
                          go_wp2
                          go_roundw
                          case rel => exact ⟨k + 1, by omega, by go_num, Hy, hb9⟩
                          case measure => simp [intOf]; omega
                      · obtain rfl : k = i := by omega
                        have hn1 : parsC (t.2.2.take (k + 1)) = true := by
                          rw [Hsn2.out, hnod.out (fun j hj hjk => hne.out j hj hjk)]
                          rfl
                        have Hn1 := Lib.hid hn1
                        clear hn1 hne hzi Hsn2 hdup hnod hno
                        go_wp2
                        go_roundw
                        case rel => exact ⟨k + 1, by omega, by go_num, Hn1, hk2⟩
                        case measure => simp [intOf]; omega
          · obtain rfl : i = n := by omega
            have Hf : Hid (R = true) := Lib.hid (by
              rw [HR2.out, ← hp.out, List.take_of_length_le (by rw [HN.out]; exact Nat.le_refl _)])
            clear hp
            go_wp2
            go_ret
            exact ⟨by rw [Hf.out]; rfl, kb⟩
      · have Hf : Hid (R = false) := Lib.hid (by rw [HR.out, decide_eq_false h8]; rfl)
        clear HR
        go_enter Tryz.func94, Tryz.ntmps94
        go_wp2_with (first | (go_at_call 93; (with_reducible refine (h1 _).mono ?_); rintro e w1 ⟨rfl, h9⟩; obtain rfl := h9.symm) | (go_at_call 93; (with_reducible refine (h2 _).mono ?_); rintro e w1 ⟨rfl, h9⟩; obtain rfl := h9.symm))
        go_ret
        exact ⟨by rw [Hf.out]; rfl, K0.out.1⟩
end Go.Proofs.YtidlpdiephlkhaaGreatDoor
