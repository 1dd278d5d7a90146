/-
  The document's answer of layer 3, written in Go: the bytes of letters, told by the plain function.
-/
import Derived.Test.YtjkcjbbkplonkaaDoorR3E
import Derived.Deep.QuietTactic
import Derived.BigQuiet
namespace Go.Proofs.YtjkcjbbkplonkaaDoor
open Go.RowKit

/-- The last number below k whose letter a byte is, or -1. -/
def upTo (c : UInt8) (k : Nat) : Int := match worthB c with
  | some v => if v < k then v else -1
  | none => -1
theorem upTo_zero (c : UInt8) : upTo c 0 = -1 := by
  unfold upTo
  cases worthB c <;> simp
theorem upTo_yes {c : UInt8} {k : Nat} (hk : k < 64) (h : letterB k = c) : upTo c (k + 1) = k := by
  unfold upTo
  rw [← h, worth_letter k hk]
  simp
theorem upTo_no {c : UInt8} {k : Nat} (h : letterB k ≠ c) : upTo c (k + 1) = upTo c k := by
  unfold upTo
  cases hw : worthB c with
  | none => rfl
  | some v =>
    obtain ⟨_, h2⟩ := letter_worth hw
    have hne : v ≠ k := fun e => h (by rw [← e]; exact h2)
    simp only
    by_cases h1 : v < k
    · rw [if_pos h1, if_pos (by omega)]
    · rw [if_neg h1, if_neg (by omega)]
theorem upTo_some {c : UInt8} {v : Nat} (h : worthB c = some v) : upTo c 64 = v ∧ v < 64 := by
  have hv := (letter_worth h).1
  unfold upTo
  rw [h]
  simp only
  exact ⟨if_pos hv, hv⟩
theorem upTo_none {c : UInt8} (h : worthB c = none) : upTo c 64 = -1 := by
  unfold upTo
  rw [h]
theorem letter_beq (c : UInt8) (k : Nat) : (((letterB k).toNat : Int) == (c.toNat : Int)) = decide (letterB k = c) := by
  rw [Bool.eq_iff_iff, beq_iff_eq, decide_eq_true_eq]
  constructor
  · intro e
    exact UInt8.toNat_inj.1 (by omega)
  · rintro rfl
    rfl
/-- A row of the call's own, behind a callee that turns no older block. -/
theorem ownsRow_below {w w' : World} {B e size n : Nat} {v : Value} {xs : List Value} (h : w.ownsRow B e size v n xs) (hb : Below w.heap.size w w') : w'.ownsRow B e size v n xs :=
  ⟨h.1, h.2.imp id fun ⟨g, cap, cur, h1, h2, h3, h4⟩ => ⟨g, cap, cur, h1, h2, (hb.block g (by
    rcases Nat.lt_or_ge g w.heap.size with h | h
    · exact h
    · rw [Array.getElem?_eq_none h] at h3; cases h3)).trans h3, h4⟩⟩
theorem pow_small (n : Nat) (hn : n < 8) : ∃ p : Nat, 2 ^ (n - 2) = p ∧ 0 < p ∧ wrap64 (2 ^ (n - 2)) = (p : Int) := by
  have h : 2 ^ (n - 2) ≤ 2 ^ 6 := Nat.pow_le_pow_right (by omega) (by omega)
  have e : (2 : Int) ^ (n - 2) = ((2 ^ (n - 2) : Nat) : Int) := by push_cast; rfl
  have h0 : 0 < 2 ^ (n - 2) := Nat.two_pow_pos _
  refine ⟨_, rfl, h0, ?_⟩
  rw [e]
  generalize 2 ^ (n - 2) = q at h h0 ⊢
  exact IntWalk.wrap64_in _ (by omega)
theorem bytes_ne3 {a b : ByteArray} (h : a ≠ b) : (a.toList == b.toList) = false := by
  have e : ∀ t : ByteArray, t.toList = t.data.toList := fun t => by
    cases t with
    | mk d => cases d with
      | mk l => simp
  simp only [e, beq_eq_false_iff_ne, ne_eq]
  exact fun e => h (ByteArray.ext (Array.ext' e))
/-- What decoding hands back. -/
def decV (r : Option (List UInt8)) : Value := match r with
  | some l => .tuple #[.string ⟨l.toArray⟩, .int .i64 0]
  | none => .tuple #[.string ⟨#[]⟩, .int .i64 2]

set_option maxRecDepth 100000 in
set_option maxHeartbeats 800000 in
theorem r3dec_any (s : ByteArray) (w : World) (hs : s.size < 400000000) :
    Calls Tryd.prog 15 #[.string s] w fun e w' => e = .returned (decV (decB s.data.toList)) ∧ Below w.heap.size w w' := by
  obtain ⟨i0, hi, hz0, hz1, hz2⟩ := info_parts infoB3
  rw [← ref_dec]
  have hown0 : w.ownsRow w.heap.size 5 1 (.slice none 0 0) ([] : List UInt8).length (Lib.byteCells []) := World.ownsRow_nil _ _ _ _
  go_enter Tryd.func15, Tryd.ntmps15
  go_wp2
  go_loopw [4, 5, 6, 7, 8, 9] (fun o vv nn iv _ _ wr => ∃ (i v n : Nat) (out : List UInt8) (vo : Value), i ≤ s.size ∧ iv = .int .i64 i ∧ vv = .int .i64 v ∧ nn = .int .i64 n ∧ o = vo ∧ n < 8 ∧ v < 2 ^ n ∧ out.length ≤ i ∧ wr.ownsRow w.heap.size 5 1 vo out.length (Lib.byteCells out) ∧ Below w.heap.size w wr ∧ takeS 0 0 [] s.data.toList = takeS v n out (s.data.toList.drop i)) (fun _ _ _ iv _ _ _ => s.size - (intOf iv).toNat)
  case atStart => exact ⟨0, 0, 0, [], _, Nat.zero_le _, rfl, rfl, rfl, rfl, by omega, by omega, Nat.le_refl _, hown0, Below.refl _ _, rfl⟩
  case round =>
    obtain ⟨i, v, n, out, vo, hi1, rfl, rfl, rfl, hvo, hn, hv, hol, hown, hbr, hst⟩ := hrel
    subst hvo
    have Hst := Lib.hid hst
    have hbz := hbr.size
    have hv128 : v < 128 := Nat.lt_of_lt_of_le hv (show 2 ^ n ≤ 2 ^ 7 from Nat.pow_le_pow_right (by omega) (by omega))
    clear hst
    by_cases hlt : i < s.size
    · have hdr : s.data.toList.drop i = s[i] :: s.data.toList.drop (i + 1) := by
        rw [List.drop_eq_getElem_cons (by have : s.data.toList.length = s.size := rfl; omega)]
        rfl
      have hrl : (s.data.toList.drop (i + 1)).length = s.size - (i + 1) := by rw [List.length_drop]; rfl
      obtain ⟨c, hc⟩ : ∃ c, s[i] = c := ⟨_, rfl⟩
      rw [hc] at hdr
      have Hdr := Lib.hid hdr
      have Hrl := Lib.hid hrl
      have hlb := fun k => letter_beq c k
      rw [← hc] at hlb
      have Hlb := Lib.hid hlb
      have Hc := Lib.hid hc
      clear hdr hrl hc hlb
      go_wp2
      go_loopw [8, 9] (fun wv kv wi => ∃ (k q : Nat), k ≤ 64 ∧ kv = .int .i64 k ∧ wv = .int .i64 (upTo c k) ∧ wi = wr.drewN q) (fun _ kv _ => 64 - (intOf kv).toNat)
      case atStart => exact ⟨0, 0, by omega, rfl, by rw [upTo_zero], rfl⟩
      case round =>
        obtain ⟨k, q, hk, rfl, rfl, hwi⟩ := hrel
        have Hwi := Lib.hid hwi
        clear hwi
        by_cases hk6 : k < 64
        · have hcall := fun w => r3letter_any k w hk6
          cases hz : decide (letterB k = s[i])
          · have hbq := (Hlb.out k).trans hz
            have Hup : Hid (upTo c (k + 1) = upTo c k) := Lib.hid (upTo_no (by rw [← Hc.out]; exact of_decide_eq_false hz))
            clear hz
            go_wp2
            go_quiet (first | (go_at_call 23; exact Calls.quiet_of_same (hcall _)))
            clear hbq
            go_wp2
            go_round
            case rel => exact ⟨k + 1, q + nq, by omega, by go_num, by rw [Hup.out], by rw [Hwi.out, World.drewN_drewN]⟩
            case measure => simp [intOf]; omega
          · have hbq := (Hlb.out k).trans hz
            have Hup : Hid (upTo c (k + 1) = k) := Lib.hid (upTo_yes hk6 (by rw [← Hc.out]; exact of_decide_eq_true hz))
            clear hz
            go_wp2
            go_quiet (first | (go_at_call 23; exact Calls.quiet_of_same (hcall _)))
            clear hbq
            go_wp2
            go_round
            case rel => exact ⟨k + 1, q + nq, by omega, by go_num, by rw [Hup.out], by rw [Hwi.out, World.drewN_drewN]⟩
            case measure => simp [intOf]; omega
        · obtain rfl : k = 64 := by omega
          have hown2 : wr.ownsRow w.heap.size 5 1 u4 out.length (Lib.byteCells out) := by rw [Hwi.out]; exact hown
          have hb2 : Below w.heap.size w wr := by rw [Hwi.out]; exact below_drewN hbr q
          clear hown hbr
          cases hw : worthB c with
          | none =>
            have hup : upTo c 64 = -1 := upTo_none hw
            rw [hup]
            clear hup
            by_cases hp : c = 61 ∧ i + 2 ≥ s.size
            · have he : (((s[i]'hlt).toNat : Int) == 61) = true := by rw [Hc.out, hp.1]; rfl
              have hd : decide ((s.size : Int) - 2 ≤ (i : Int)) = true := decide_eq_true (by omega)
              have Hn : Hid (takeS 0 0 [] s.data.toList = takeS v n out (s.data.toList.drop (i + 1))) := Lib.hid (by
                rw [Hst.out, Hdr.out, takeS, hw]
                simp only
                rw [if_pos ⟨hp.1, by rw [Hrl.out]; omega⟩])
              clear hp hw
              go_wp2
              go_roundw
              case rel => exact ⟨i + 1, v, n, out, _, by omega, by go_num, rfl, rfl, rfl, hn, hv, by omega, hown2, hb2, Hn.out⟩
              case measure => simp [intOf]; omega
            · have Hf : Hid (refDecB s.data.toList = none) := Lib.hid (by
                unfold refDecB
                rw [Hst.out, Hdr.out, takeS, hw]
                simp only
                rw [if_neg fun h => hp ⟨h.1, by have := h.2; rw [Hrl.out] at this; omega⟩])
              by_cases hp1 : c = 61
              · have he : (((s[i]'hlt).toNat : Int) == 61) = true := by rw [Hc.out, hp1]; rfl
                have hd : decide ((s.size : Int) - 2 ≤ (i : Int)) = false := decide_eq_false (by have : ¬ i + 2 ≥ s.size := fun h => hp ⟨hp1, h⟩; omega)
                clear hp hw hp1
                go_wp2
                go_ret2
                exact ⟨by rw [Hf.out]; rfl, hb2⟩
              · have he : (((s[i]'hlt).toNat : Int) == 61) = false := by
                  rw [Hc.out, beq_eq_false_iff_ne]
                  intro e
                  exact hp1 (UInt8.toNat_inj.1 (by have : (61 : UInt8).toNat = 61 := rfl; omega))
                clear hp hw hp1
                go_wp2
                go_ret2
                exact ⟨by rw [Hf.out]; rfl, hb2⟩
          | some x =>
            obtain ⟨hup, hx⟩ := upTo_some hw
            rw [hup]
            clear hup
            have hcx : c.toNat < 256 := c.toNat_lt
            by_cases h8 : 8 ≤ n + 6
            · have Hn : Hid (takeS 0 0 [] s.data.toList = takeS ((v * 64 + x) % 2 ^ (n + 6 - 8)) (n + 6 - 8) (out ++ [UInt8.ofNat ((v * 64 + x) / 2 ^ (n + 6 - 8))]) (s.data.toList.drop (i + 1))) := Lib.hid (by
                rw [Hst.out, Hdr.out, takeS, hw]
                simp only
                rw [if_pos h8])
              have hy : ((v : Int) * 64 + x) / 2 ^ (n - 2) % 256 = ((UInt8.ofNat ((v * 64 + x) / 2 ^ (n + 6 - 8))).toNat : Int) := by
                rw [UInt8.toNat_ofNat', show n + 6 - 8 = n - 2 by omega]
                push_cast
                rfl
              have Hy := Lib.hid hy
              clear hw hy
              have hown2 := hown2.alloc (.cells #[.int .u8 (((v : Int) * 64 + x) / 2 ^ (n - 2) % 256)] 5)
              have hbz2 := hb2.size
              go_wp2_with (at_builtin; refine wpList_append_own _ rfl _ _ 34 rfl w.heap.size 5 i0 (.int .u8 0) 1 1 Tryd.underlying34 hi hz0 hz1 hz2 rfl (by decide) _ out.length _ rfl hown2 ⟨wr.heap.size, 0, none⟩ 1 1 [.int .u8 (((v : Int) * 64 + x) / 2 ^ (n - 2) % 256)] rfl rfl ?n1 ?n2 ?n3 ?n4 ?n5 ?_)
              case n1 =>
                intro j u hj
                rw [Addr.add_lit]
                have hj0 : j = 0 := by
                  rcases Nat.eq_zero_or_pos j with h | h
                  · exact h
                  · rw [List.getElem?_eq_none (by simp; omega)] at hj
                    cases hj
                subst hj0
                simp at hj
                subst hj
                go_simp
              case n2 =>
                intro u hu
                simp at hu
                subst hu
                rfl
              case n3 => unfold maxLen; omega
              case n4 => omega
              case n5 => simp; omega
              intro v' w3 hown3 hgrow3 _
              have hb3 : Below w.heap.size w w3 := (hb2.alloc hbz2 _).grown hgrow3 (by simp; omega) fun k hk => (hown2.lt k hk).1
              go_wp2
              case isTrue =>
                exfalso
                obtain ⟨p, hpe, hp1, hwp⟩ := pow_small n hn
                rename_i h0
                rw [hwp] at h0
                clear hwp hpe
                omega
              go_roundw
              case rel =>
                obtain ⟨p, hpe, hp1, hwp⟩ := pow_small n hn
                refine ⟨i + 1, (v * 64 + x) % p, n - 2, out ++ [UInt8.ofNat ((v * 64 + x) / 2 ^ (n + 6 - 8))], _, by omega, by go_num, ?_, ?_, rfl, by omega, by rw [hpe]; exact Nat.mod_lt _ hp1, by simp; omega, ?_, hb3, ?_⟩
                · rw [hwp]; push_cast; rfl
                · congr 1; omega
                · rw [Lib.byteCells_append, List.length_append]
                  have hb1 : Lib.byteCells [UInt8.ofNat ((v * 64 + x) / 2 ^ (n + 6 - 8))] = [.int .u8 (((v : Int) * 64 + x) / 2 ^ (n - 2) % 256)] := by rw [Hy.out]; rfl
                  rw [hb1]
                  exact hown3
                · rw [Hn.out, show n + 6 - 8 = n - 2 by omega, hpe]
              case measure => simp [intOf]; omega
            · have Hn : Hid (takeS 0 0 [] s.data.toList = takeS (v * 64 + x) (n + 6) out (s.data.toList.drop (i + 1))) := Lib.hid (by
                rw [Hst.out, Hdr.out, takeS, hw]
                simp only
                rw [if_neg h8])
              have hv2 : v * 64 + x < 2 ^ (n + 6) := by rw [Nat.pow_add]; omega
              have Hv2 := Lib.hid hv2
              clear hw hv2
              go_wp2
              go_roundw
              case rel => exact ⟨i + 1, v * 64 + x, n + 6, out, _, by omega, by go_num, by push_cast; rfl, by push_cast; rfl, rfl, by omega, Hv2.out, by omega, hown2, hb2, Hn.out⟩
              case measure => simp [intOf]; omega
    · obtain rfl : i = s.size := by omega
      have hdr : s.data.toList.drop s.size = [] := List.drop_eq_nil_of_le (Nat.le_of_eq rfl)
      have htk : takeS 0 0 [] s.data.toList = some out := by rw [Hst.out, hdr]; rfl
      have hcv := conv_own hown
      have hcall := r3enc_any ⟨out.toArray⟩ wr (by have : (⟨out.toArray⟩ : ByteArray).size = out.length := rfl; omega)
      have Hhtk := Lib.hid htk
      clear hdr htk
      by_cases hes : encB out = s.data.toList
      · have Hf : Hid (refDecB s.data.toList = some out) := Lib.hid (by
          unfold refDecB
          rw [Hhtk.out]
          simp only
          rw [if_pos hes])
        have hse : (⟨(encB out).toArray⟩ : ByteArray) = s := by rw [hes]
        rw [hse] at hcall
        clear hes
        have Hse := Lib.hid hse
        clear hse
        go_wp2_with fail
        refine hcall.mono ?_
        rintro e w' ⟨rfl, hw'⟩
        have hb3 := hbr.trans (hw'.mono hbz)
        have hcv2 : (convert 34 9 u4).run Tryd.prog w' = .ok (.string ⟨out.toArray⟩) w' := conv_own (ownsRow_below hown hw')
        clear hcall
        go_wp2
        go_ret2
        exact ⟨by rw [Hf.out]; rfl, hb3⟩
      · have Hf : Hid (refDecB s.data.toList = none) := Lib.hid (by
          unfold refDecB
          rw [Hhtk.out]
          simp only
          rw [if_neg hes])
        have hse : (⟨(encB out).toArray⟩ : ByteArray) ≠ s := fun h => hes (by rw [← h])
        generalize (⟨(encB out).toArray⟩ : ByteArray) = y at hse hcall
        have hyb : (y.toList == s.toList) = false := bytes_ne3 hse
        clear hes
        go_wp2_with fail
        refine hcall.mono ?_
        rintro e w' ⟨rfl, hw'⟩
        have hb3 := hbr.trans (hw'.mono hbz)
        clear hcall
        go_wp2
        go_ret2
        exact ⟨by rw [Hf.out]; rfl, hb3⟩
end Go.Proofs.YtjkcjbbkplonkaaDoor
