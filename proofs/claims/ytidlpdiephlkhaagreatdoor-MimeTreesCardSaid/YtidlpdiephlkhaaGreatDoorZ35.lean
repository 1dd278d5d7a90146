/-
  Texts of this proof, put together: R10A, R10B, R13U.
-/
import Derived.Test.YtidlpdiephlkhaaGreatDoorZ13
import Derived.LoopIn
import Derived.Deep.LoopGhost
import Derived.Test.YtidlpdiephlkhaaGreatDoorZ34
import Derived.Test.YtidlpdiephlkhaaGreatDoorZ19
namespace Go.Proofs.YtidlpdiephlkhaaGreatDoor
open Go.RowKit

theorem r10low_any (c : UInt8) (w : World) : Calls Tryz.prog 69 #[.int .u8 (c.toNat : Int)] w fun e w' => e = .returned (.int .u8 ((lowH c).toNat : Int)) ∧ w' = w := by
  have hcl : c.toNat < 256 := c.toNat_lt
  by_cases h1 : 65 ≤ c.toNat
  · by_cases h2 : c.toNat ≤ 90
    · rw [low_in ⟨h1, h2⟩]
      go_enter Tryz.func69, Tryz.ntmps69
      go_wp2
      go_ret
      exact ⟨rfl, rfl⟩
    · rw [low_out (by omega)]
      go_enter Tryz.func69, Tryz.ntmps69
      go_wp2
      go_ret
      exact ⟨rfl, rfl⟩
  · rw [low_out (by omega)]
    go_enter Tryz.func69, Tryz.ntmps69
    go_wp2
    go_ret
    exact ⟨rfl, rfl⟩
theorem r10blank_any (c : UInt8) (w : World) : Calls Tryz.prog 88 #[.int .u8 (c.toNat : Int)] w fun e w' => e = .returned (.bool (blankH c)) ∧ w' = w := by
  rw [blank_val]
  by_cases h1 : c.toNat = 32
  · rw [decide_eq_true (.inl h1)]
    have f1 : ((c.toNat : Int) == 32) = true := by rw [beq_iff_eq]; omega
    clear h1
    go_enter Tryz.func88, Tryz.ntmps88
    go_wp2
    go_ret
    exact ⟨rfl, rfl⟩
  · have f1 : ((c.toNat : Int) == 32) = false := by rw [beq_eq_false_iff_ne]; omega
    by_cases h2 : c.toNat = 9
    · rw [decide_eq_true (.inr h2)]
      have f2 : ((c.toNat : Int) == 9) = true := by rw [beq_iff_eq]; omega
      clear h1 h2
      go_enter Tryz.func88, Tryz.ntmps88
      go_wp2
      go_ret
      exact ⟨rfl, rfl⟩
    · rw [decide_eq_false (by omega)]
      have f2 : ((c.toNat : Int) == 9) = false := by rw [beq_eq_false_iff_ne]; omega
      clear h1 h2
      go_enter Tryz.func88, Tryz.ntmps88
      go_wp2
      go_ret
      exact ⟨rfl, rfl⟩


set_option maxRecDepth 100000 in
set_option maxHeartbeats 2000000 in
theorem r10same_any (a b : ByteArray) (w : World) (hs : a.size ≤ 1000000) (hs2 : b.size ≤ 1000000) : Calls Tryz.prog 43 #[.string a, .string b] w fun e w' => e = .returned (.bool (sameH a.data.toList b.data.toList)) ∧ Below w.heap.size w w' := by
  by_cases hsz : a.size = b.size
  · have hall := same_all a b hsz
    have hno := same_step a b
    have HA := Lib.hid hall
    have HN := Lib.hid hno
    have hsz2 : a.size ≤ b.size := by omega
    have hq : ((a.size : Int) != (b.size : Int)) = false := by rw [bne_eq_false_iff_eq]; omega
    have Hsz := Lib.hid hsz
    clear hall hno hsz
    go_enter Tryz.func43, Tryz.ntmps43
    go_wp2
    go_loopw [5] (fun iv wr => ∃ i : Nat, i ≤ a.size ∧ iv = .int .i64 i ∧ Hid (∀ j (ha : j < a.size) (hb : j < b.size), j < i → lowH a[j] = lowH b[j]) ∧ Below w.heap.size w wr) (fun iv _ => a.size - (intOf iv).toNat)
    case atStart => exact ⟨0, by omega, rfl, Lib.hid (fun j _ _ h => by omega), Below.refl _ _⟩
    case round =>
      obtain ⟨i, hi, rfl, hj, hbr⟩ := hrel
      by_cases hlt : i < a.size
      · have hlb : i < b.size := by omega
        have hla := fun W => r10low_any a[i] W
        have hlo := fun W => r10low_any b[i] W
        have hno := HN.out i hlt hlb
        have hyes : lowH a[i] = lowH b[i] → ∀ j (ha : j < a.size) (hb : j < b.size), j < i + 1 → lowH a[j] = lowH b[j] := fun h j h1 h2 h3 => by
          rcases Nat.lt_or_ge j i with h4 | h4
          · exact hj.out j h1 h2 h4
          · obtain rfl : j = i := by omega
            exact h
        obtain ⟨x, hx⟩ : ∃ x, lowH a[i] = x := ⟨_, rfl⟩
        obtain ⟨y, hy⟩ : ∃ y, lowH b[i] = y := ⟨_, rfl⟩
        rw [hx] at hla
        rw [hy] at hlo
        rw [hx, hy] at hno hyes
        clear hx hy hj
        by_cases he : x = y
        · have Hy := Lib.hid (hyes he)
          have hne : ((x.toNat : Int) != (y.toNat : Int)) = false := by rw [he, bne_eq_false_iff_eq]
          clear hno hyes he
          go_wp2_with fail
          go_quiet (first | (with_reducible exact Calls.quiet_of_same (hla _)) | (with_reducible exact Calls.quiet_of_same (hlo _)))
          have hb2 := below_drewN hbr nq
          clear hbr
          go_wp2
          go_roundw
          case rel => exact ⟨i + 1, by omega, by go_num, Hy, hb2⟩
          case measure => simp [intOf]; omega
        · have Hy := Lib.hid (hno he)
          have hne : ((x.toNat : Int) != (y.toNat : Int)) = true := by
            rw [bne_iff_ne]
            exact fun e => he (UInt8.toNat_inj.1 (by omega))
          clear hno hyes he
          go_wp2_with fail
          go_quiet (first | (with_reducible exact Calls.quiet_of_same (hla _)) | (with_reducible exact Calls.quiet_of_same (hlo _)))
          have hb2 := below_drewN hbr nq
          clear hbr
          go_wp2
          go_ret
          exact ⟨by rw [Hy.out]; rfl, hb2⟩
      · have Hy := Lib.hid (HA.out fun j h1 h2 => hj.out j h1 h2 (by omega))
        clear hj
        go_wp2
        go_ret
        exact ⟨by rw [Hy.out]; rfl, hbr⟩
  · have hq : ((a.size : Int) != (b.size : Int)) = true := by rw [bne_iff_ne]; omega
    have Hy := Lib.hid (same_size a b hsz)
    clear hsz
    go_enter Tryz.func43, Tryz.ntmps43
    go_wp2
    go_ret
    exact ⟨by rw [Hy.out]; rfl, Below.refl _ _⟩
end Go.Proofs.YtidlpdiephlkhaaGreatDoor
namespace Go.Proofs.YtidlpdiephlkhaaGreatDoor
open Go.RowKit

set_option maxRecDepth 100000 in
set_option maxHeartbeats 4000000 in
theorem r10fields_any (B : Nat) (v u : Value) (l k : List FieldH) (w : World) (h : FieldsAt w B v l) (h2 : FieldsAt w B u k) (hB : B ≤ w.heap.size) :
    Calls Tryz.prog 20 #[v, u] w fun e w' => e = .returned (.bool (decide (l = k))) ∧ Below w.heap.size w w' := by
  obtain ⟨ao, cap, rfl, hc1, hc2, hat⟩ := h
  obtain ⟨bo, cap2, rfl, hd1, hd2, hat2⟩ := h2
  have Hat := Lib.hid hat
  have Hat2 := Lib.hid hat2
  obtain ⟨n, hn⟩ : ∃ n, l.length = n := ⟨_, rfl⟩
  obtain ⟨n2, hn2⟩ : ∃ n, k.length = n := ⟨_, rfl⟩
  have Hn := Lib.hid hn
  have Hn2 := Lib.hid hn2
  unfold maxLen at hc2 hd2
  rw [hn] at hc1
  rw [hn2] at hd1
  rw [hn, hn2]
  clear hat hat2 hn hn2
  by_cases hnn : n = n2
  · subst hnn
    go_enter Tryz.func20, Tryz.ntmps20
    go_wp2
    go_loopw [5] (fun iv wr => ∃ i : Nat, i ≤ n ∧ iv = .int .i64 i ∧ Hid (∀ j (hj : j < l.length) (hk : j < k.length), j < i → l[j] = k[j]) ∧ Below w.heap.size w wr) (fun iv _ => n - (intOf iv).toNat)
    case atStart => exact ⟨0, by omega, rfl, Lib.hid (fun j _ _ h => by omega), Below.refl _ _⟩
    case round =>
      obtain ⟨i, hi, rfl, hall, hbr⟩ := hrel
      by_cases hlt : i < n
      · have hil : i < l.length := by rw [Hn.out]; exact hlt
        have hik : i < k.length := by rw [Hn2.out]; exact hlt
        obtain ⟨g, off, rfl, hgB, z0, z1⟩ := Hat.out i hil
        obtain ⟨g2, off2, rfl, hgB2, x0, x1⟩ := Hat2.out i hik
        have hyes : Hid (l[i] = k[i] → ∀ j (hj : j < l.length) (hk : j < k.length), j < i + 1 → l[j] = k[j]) := Lib.hid fun h j hj hk h3 => by
          rcases Nat.lt_or_ge j i with h4 | h4
          · exact hall.out j hj hk h4
          · obtain rfl : j = i := by omega
            exact h
        have hno : Hid (l[i] ≠ k[i] → l ≠ k) := Lib.hid fun h e => h (by subst e; rfl)
        obtain ⟨f, hf⟩ : ∃ f, l[i] = f := ⟨_, rfl⟩
        obtain ⟨f2, hf2⟩ : ∃ f, k[i] = f := ⟨_, rfl⟩
        rw [hf] at z0 z1
        rw [hf2] at x0 x1
        rw [hf, hf2] at hyes hno
        have y0 := (hbr.cell (p := ⟨g, off + i * 2, none⟩) (by show g < w.heap.size; omega)).trans z0
        have y1 := (hbr.cell (p := ⟨g, off + i * 2 + 1, none⟩) (by show g < w.heap.size; omega)).trans z1
        have v0 := (hbr.cell (p := ⟨g2, off2 + i * 2, none⟩) (by show g2 < w.heap.size; omega)).trans x0
        have v1 := (hbr.cell (p := ⟨g2, off2 + i * 2 + 1, none⟩) (by show g2 < w.heap.size; omega)).trans x1
        have hgr : g < wr.heap.size := by have := hbr.size; omega
        have hgr2 : g2 < wr.heap.size := by have := hbr.size; omega
        clear z0 z1 x0 x1 hil hik hf hf2 hall
        by_cases he : f = f2
        · subst he
          have Hy := Lib.hid (hyes.out rfl)
          obtain ⟨X, hX⟩ : ∃ X, textQ f.1 = X := ⟨_, rfl⟩
          obtain ⟨Y, hY⟩ : ∃ Y, textQ f.2 = Y := ⟨_, rfl⟩
          rw [hX] at y0 v0
          rw [hY] at y1 v1
          clear hyes hno hX hY
          go_wp2_with fail
          go_quiet (fail)
          have hb2 := below_drewN hbr nq
          clear hbr y0 y1 v0 v1
          go_wp2
          go_roundw
          case rel => exact ⟨i + 1, by omega, by go_num, Hy, hb2⟩
          case measure => simp [intOf]; omega
        · have Hr : Hid (decide (l = k) = false) := Lib.hid (decide_eq_false (hno.out he))
          have hne : (f.1 == f2.1 && f.2 == f2.2) = false := by
            rw [Bool.eq_false_iff]
            intro h
            simp only [Bool.and_eq_true, beq_iff_eq] at h
            exact he (Prod.ext h.1 h.2)
          obtain ⟨X, hX⟩ : ∃ X, textQ f.1 = X := ⟨_, rfl⟩
          obtain ⟨Y, hY⟩ : ∃ Y, textQ f.2 = Y := ⟨_, rfl⟩
          obtain ⟨X2, hX2⟩ : ∃ X, textQ f2.1 = X := ⟨_, rfl⟩
          obtain ⟨Y2, hY2⟩ : ∃ Y, textQ f2.2 = Y := ⟨_, rfl⟩
          have e1 : (X.toList == X2.toList) = (f.1 == f2.1) := by rw [← hX, ← hX2, Lib.toList_data, Lib.toList_data]; rfl
          have e2 : (Y.toList == Y2.toList) = (f.2 == f2.2) := by rw [← hY, ← hY2, Lib.toList_data, Lib.toList_data]; rfl
          rw [hX] at y0
          rw [hX2] at v0
          rw [hY] at y1
          rw [hY2] at v1
          rw [← e1, ← e2] at hne
          clear hyes hno hX hY hX2 hY2 e1 e2 he
          cases q1 : (X.toList == X2.toList) with
          | true =>
            have q2 : (Y.toList == Y2.toList) = false := by rw [q1] at hne; exact hne
            clear hne
            go_wp2_with fail
            go_quiet (fail)
            have hb2 := below_drewN hbr nq
            clear hbr y0 y1 v0 v1
            go_wp2
            go_ret
            exact ⟨by rw [Hr.out]; rfl, hb2⟩
          | false =>
            clear hne
            go_wp2_with fail
            go_quiet (fail)
            have hb2 := below_drewN hbr nq
            clear hbr y0 y1 v0 v1
            go_wp2
            go_ret
            exact ⟨by rw [Hr.out]; rfl, hb2⟩
      · have Hr : Hid (decide (l = k) = true) := Lib.hid (decide_eq_true (List.ext_getElem (by rw [Hn.out, Hn2.out]) fun j hj hk => hall.out j hj hk (by have := Hn.out; omega)))
        clear hall
        go_wp2
        go_ret
        exact ⟨by rw [Hr.out]; rfl, hbr⟩
  · have Hr : Hid (decide (l = k) = false) := Lib.hid (decide_eq_false fun e => hnn (by rw [← Hn.out, ← Hn2.out, e]))
    have hq : ((n : Int) != (n2 : Int)) = true := by rw [bne_iff_ne]; omega
    clear hnn
    go_enter Tryz.func20, Tryz.ntmps20
    go_wp2
    go_ret
    exact ⟨by rw [Hr.out]; rfl, Below.refl _ _⟩
end Go.Proofs.YtidlpdiephlkhaaGreatDoor
namespace Go.Proofs.YtidlpdiephlkhaaGreatDoor
open Go.RowKit

theorem own_monoU {w : World} {B B' e size n : Nat} {v : Value} {xs : List Value} (h : w.ownsRow B e size v n xs) (hb : B' ≤ B) : w.ownsRow B' e size v n xs :=
  ⟨h.1, h.2.imp id fun ⟨g, cap, cur, h1, h2, h3⟩ => ⟨g, cap, cur, h1, Nat.le_trans hb h2, h3⟩⟩
theorem same_ct (f : TextH) : sameH f [99, 111, 110, 116, 101, 110, 116, 45, 116, 121, 112, 101] = sameH f ctM := by
  unfold sameH
  rw [show ([99, 111, 110, 116, 101, 110, 116, 45, 116, 121, 112, 101] : TextH).map lowH = ctM.map lowH by decide]
theorem same_cte (f : TextH) : sameH f [99, 111, 110, 116, 101, 110, 116, 45, 116, 114, 97, 110, 115, 102, 101, 114, 45, 101, 110, 99, 111, 100, 105, 110, 103] = sameH f cteM := by
  unfold sameH
  rw [show ([99, 111, 110, 116, 101, 110, 116, 45, 116, 114, 97, 110, 115, 102, 101, 114, 45, 101, 110, 99, 111, 100, 105, 110, 103] : TextH).map lowH = cteM.map lowH by decide]
set_option maxRecDepth 100000 in
set_option maxHeartbeats 8000000 in
theorem r13unf_any (B : Nat) (p : TreeM) (fv pv rv : Value) (w : World) (h : TreeAt w B p fv pv rv) (hB : B ≤ w.heap.size) (hsm : SmallF 1000000 p.fields) (hl : p.fields.length ≤ 1000000) :
    Calls Tryz.prog 22 #[partV p fv pv rv] w fun e w' => ∃ v, e = .returned v ∧ FieldsOwn w' w.heap.size v (unfieldM p.fields) ∧ Below w.heap.size w w' := by
  obtain ⟨a1, c1, rfl, hc1, hm1⟩ := h.f.slice
  obtain ⟨_, ⟨a2, n2, c2, rfl⟩, ⟨a3, n3, c3, rfl⟩⟩ := h.slices
  unfold maxLen at hm1
  obtain ⟨n1, hn1⟩ : ∃ n1, p.fields.length = n1 := ⟨_, rfl⟩
  have Hf : Hid (∀ W i (hi : i < p.fields.length), Below w.heap.size w W → ∃ g off, a1 = some ⟨g, off, none⟩ ∧ W.cell? ⟨g, off + i * 2, none⟩ = some (.string (textQ p.fields[i].1)) ∧ W.cell? ⟨g, off + i * 2 + 1, none⟩ = some (.string (textQ p.fields[i].2))) := Lib.hid fun W i hi hW => by
    obtain ⟨ao, cap, e, _, _, h4⟩ := (h.below hW hB).f
    cases e
    obtain ⟨g, off, q1, _, q3, q4⟩ := h4 i hi
    exact ⟨g, off, q1, q3, q4⟩
  have HS := Lib.hid (And.intro hsm hn1)
  unfold partV
  rw [hn1] at hc1 hl ⊢
  obtain ⟨X, hX⟩ : ∃ X, textQ p.typ.1 = X := ⟨_, rfl⟩
  obtain ⟨Y, hY⟩ : ∃ Y, textQ p.typ.2.1 = Y := ⟨_, rfl⟩
  obtain ⟨D, hD⟩ : ∃ D, textQ p.body = D := ⟨_, rfl⟩
  rw [hX, hY, hD]
  obtain ⟨w1, hw1⟩ : ∃ w1, w.alloc (.cells #[.slice a1 n1 c1, .string X, .string Y, .slice a2 n2 c2, .string D, .slice a3 n3 c3] 29) = w1 := ⟨_, rfl⟩
  have b1 : Below w.heap.size w w1 := by rw [← hw1]; exact (Below.refl _ _).alloc (Nat.le_refl _) _
  have p1 : PrtAt w1 w.heap.size (.slice a1 n1 c1) (.string X) (.string Y) (.slice a2 n2 c2) (.string D) (.slice a3 n3 c3) := by rw [← hw1]; exact prt_new w _ _ _ _ _ _
  have K1 : Hid (∀ W, Below w1.heap.size w1 W → PrtAt W w.heap.size (.slice a1 n1 c1) (.string X) (.string Y) (.slice a2 n2 c2) (.string D) (.slice a3 n3 c3) ∧ Below w.heap.size w W) := Lib.hid fun W hW => ⟨p1.below hW, b1.trans (hW.mono b1.size)⟩
  have r1 := Lib.hid (And.intro (Below.refl w1.heap.size w1) b1.size)
  clear hX hY hD h hsm hn1 p1 b1
  go_enter Tryz.func22, Tryz.ntmps22
  go_wp2
  go_loopw [3, 4, 5] (fun lv iv _ wr => ∃ (i : Nat) (acc : List FieldH) (ao : Option Addr) (nn cap : Nat), i ≤ n1 ∧ iv = .int .i64 i ∧ lv = .slice ao nn cap ∧ nn ≤ i ∧ Hid (acc = unfieldM (p.fields.take i) ∧ acc.length = nn) ∧ Hid (FieldsOwn wr w1.heap.size (.slice ao nn cap) acc ∧ Below w1.heap.size w1 wr)) (fun _ iv _ _ => n1 - (intOf iv).toNat)
  case atStart => exact ⟨0, [], none, 0, 0, by omega, rfl, rfl, by omega, Lib.hid ⟨rfl, rfl⟩, Lib.hid ⟨World.ownsRow_nil _ _ _ _, r1.out.1⟩⟩
  case round =>
    obtain ⟨i, acc, ao, nn, cap, hi, rfl, rfl, hnn, hacc, hk⟩ := hrel
    by_cases hlt : i < n1
    · have hil : i < p.fields.length := by rw [HS.out.2]; exact hlt
      obtain ⟨g, off, rfl, x0, x1⟩ := Hf.out wr i hil (K1.out wr hk.out.2).2
      have Hc : Hid (∀ W, Below w1.heap.size w1 W → W.cell? ⟨g, off + i * 2, none⟩ = some (.string (textQ p.fields[i].1)) ∧ W.cell? ⟨g, off + i * 2 + 1, none⟩ = some (.string (textQ p.fields[i].2))) := Lib.hid fun W hW => by
        obtain ⟨_, _, e, q0, q1⟩ := Hf.out W i hil (K1.out W hW).2
        cases e
        exact ⟨q0, q1⟩
      obtain ⟨s1, s2⟩ := HS.out.1 _ (List.getElem_mem hil)
      have htk := unfield_take p.fields i hil
      rw [← hacc.out.1] at htk
      obtain ⟨f, hf⟩ : ∃ f, p.fields[i] = f := ⟨_, rfl⟩
      rw [hf] at Hc x0 x1 s1 s2 htk
      obtain ⟨P, hP⟩ : ∃ P, textQ f.1 = P := ⟨_, rfl⟩
      obtain ⟨Q, hQ⟩ : ∃ Q, textQ f.2 = Q := ⟨_, rfl⟩
      rw [hP] at x0 Hc
      rw [hQ] at x1 Hc
      have sP : P.size ≤ 1000000 := by rw [← hP]; exact s1
      have hPd : P.data.toList = f.1 := by rw [← hP]; rfl
      have K5 : Hid (∀ W, Below wr.heap.size wr W → PrtAt W w.heap.size (.slice (some ⟨g, off, none⟩) n1 c1) (.string X) (.string Y) (.slice a2 n2 c2) (.string D) (.slice a3 n3 c3) ∧ (W.cell? ⟨g, off + i * 2, none⟩ = some (.string P) ∧ W.cell? ⟨g, off + i * 2 + 1, none⟩ = some (.string Q)) ∧ FieldsOwn W w1.heap.size (.slice ao nn cap) acc ∧ Below w1.heap.size w1 W) := Lib.hid fun W hW => by
        have hb := hk.out.2.trans (hW.mono hk.out.2.size)
        exact ⟨(K1.out W hb).1, Hc.out W hb, ownsRow_below4 hk.out.1 hW, hb⟩
      have h1 := r10same_any P ⟨#[99, 111, 110, 116, 101, 110, 116, 45, 116, 121, 112, 101]⟩ wr sP (by decide)
      rw [hPd, show (⟨#[99, 111, 110, 116, 101, 110, 116, 45, 116, 121, 112, 101]⟩ : ByteArray).data.toList = [99, 111, 110, 116, 101, 110, 116, 45, 116, 121, 112, 101] from rfl, same_ct] at h1
      have h2 : Hid (∀ W, Calls Tryz.prog 43 #[.string P, .string ⟨#[99, 111, 110, 116, 101, 110, 116, 45, 116, 114, 97, 110, 115, 102, 101, 114, 45, 101, 110, 99, 111, 100, 105, 110, 103]⟩] W fun e w' => e = .returned (.bool (sameH f.1 cteM)) ∧ Below W.heap.size W w') := Lib.hid fun W => by
        have := r10same_any P ⟨#[99, 111, 110, 116, 101, 110, 116, 45, 116, 114, 97, 110, 115, 102, 101, 114, 45, 101, 110, 99, 111, 100, 105, 110, 103]⟩ W sP (by decide)
        rw [hPd, show (⟨#[99, 111, 110, 116, 101, 110, 116, 45, 116, 114, 97, 110, 115, 102, 101, 114, 45, 101, 110, 99, 111, 100, 105, 110, 103]⟩ : ByteArray).data.toList = [99, 111, 110, 116, 101, 110, 116, 45, 116, 114, 97, 110, 115, 102, 101, 114, 45, 101, 110, 99, 111, 100, 105, 110, 103] from rfl, same_cte] at this
        exact this
      obtain ⟨y0, y1, y2, y3, y4, y5, _⟩ := (K1.out wr hk.out.2).1.cells
      obtain ⟨c1b, hc1b⟩ : ∃ b, sameH f.1 ctM = b := ⟨_, rfl⟩
      obtain ⟨c2b, hc2b⟩ : ∃ b, sameH f.1 cteM = b := ⟨_, rfl⟩
      rw [hc1b] at h1 htk
      rw [hc2b] at h2 htk
      have HP := Lib.hid (And.intro hP hQ)
      clear hf hP hQ hPd hil s1 s2 hc1b hc2b Hc sP
      cases c1b with
      | true =>
        have Htk := Lib.hid (show unfieldM (p.fields.take (i + 1)) = acc by rw [htk]; simp)
        clear htk h2
        go_wp2_with (go_at_call 43
                     refine h1.mono ?_
                     rintro e w6 ⟨rfl, hb⟩
                     have K6 := Lib.hid (K5.out w6 hb)
                     clear hb h1)
        go_roundw
        case rel => exact ⟨i + 1, acc, ao, nn, cap, by omega, by go_num, rfl, by omega, Lib.hid ⟨Htk.out.symm, hacc.out.2⟩, Lib.hid K6.out.2.2⟩
        case measure => simp [intOf]; omega
      | false =>
        cases c2b with
        | true =>
          have Htk := Lib.hid (show unfieldM (p.fields.take (i + 1)) = acc by rw [htk]; simp)
          clear htk
          go_wp2_with (go_at_call 43
                       refine h1.mono ?_
                       rintro e w6 ⟨rfl, hb⟩
                       have K6 := Lib.hid (And.intro hb (K5.out w6 hb))
                       clear hb h1
                       refine HeldW.of ?_)
          unfold HeldW
          go_wp2_with (go_at_call 43
                       refine (h2.out _).mono ?_
                       rintro e w7 ⟨rfl, hb⟩
                       have K7 := Lib.hid (K5.out w7 (K6.out.1.trans (hb.mono K6.out.1.size)))
                       clear hb h2)
          go_roundw
          case rel => exact ⟨i + 1, acc, ao, nn, cap, by omega, by go_num, rfl, by omega, Lib.hid ⟨Htk.out.symm, hacc.out.2⟩, Lib.hid K7.out.2.2⟩
          case measure => simp [intOf]; omega
        | false =>
          have Htk := Lib.hid (show unfieldM (p.fields.take (i + 1)) = acc ++ [f] by rw [htk]; rfl)
          clear htk
          go_wp2_with (go_at_call 43
                       refine h1.mono ?_
                       rintro e w6 ⟨rfl, hb⟩
                       have K6 := Lib.hid (And.intro hb (K5.out w6 hb))
                       clear hb h1
                       refine HeldW.of ?_)
          unfold HeldW
          clear x0 x1 y0 y1 y2 y3 y4 y5
          go_wp2_with (go_at_call 43
                       refine (h2.out _).mono ?_
                       rintro e w8 ⟨rfl, hb⟩
                       have hb8 := K6.out.1.trans (hb.mono K6.out.1.size)
                       obtain ⟨x0, x1⟩ := (K5.out w8 hb8).2.1
                       obtain ⟨y0, y1, y2, y3, y4, y5, _⟩ := (K5.out w8 hb8).1.cells
                       obtain ⟨w9, hw9⟩ : ∃ w9, w8.alloc (.cells #[.string P, .string Q] 52) = w9 := ⟨_, rfl⟩
                       have b9 : Below w8.heap.size w8 w9 := by rw [← hw9]; exact (Below.refl _ _).alloc (Nat.le_refl _) _
                       have q9 : w9.heap[w8.heap.size]? = some (.cells #[.string P, .string Q] 52 (0, 0)) := by rw [← hw9]; exact heap_alloc_new w8 _
                       have K9 := Lib.hid (And.intro (K5.out w9 (hb8.trans (b9.mono hb8.size))) q9)
                       clear hb b9 q9 hb8 h2
                       refine HeldW.of ?_)
          unfold HeldW
          go_wp2_with (at_builtin; refine HeldW.of ?_)
          unfold HeldW
          have hal : acc.length ≤ 10000000 := by have := hacc.out.2; omega
          have hq0 := Lib.cell_of_heap K9.out.2 0
          have hq1 := Lib.cell_of_heap K9.out.2 1
          have hBw := K9.out.1.2.2.2.size
          refine wpList_append_field rfl _ _ rfl w1.heap.size (.slice ao nn cap) acc f rfl K9.out.1.2.2.1 hBw hal w8.heap.size 1 rfl (by rw [HP.out.1]; exact hq0) (by rw [HP.out.2]; exact hq1) ?_
          intro v' w10 ho hg
          obtain ⟨ao', cap', rfl⟩ := row_slice ho
          have hll : (acc ++ [f]).length = nn + 1 := by rw [List.length_append, hacc.out.2]; rfl
          have hF := K9.out.1.2.2.2.grown hg hBw (fun q hq => (row_block K9.out.1.2.2.1 hq).1)
          rw [hll] at ho
          have A10 := Lib.hid (And.intro ho (And.intro hF hll))
          clear ho hg hF hq0 hq1 K9 x0 x1 y0 y1 y2 y3 y4 y5 hal
          rw [hll]
          clear hll
          go_wp2
          go_roundw
          case rel => exact ⟨i + 1, acc ++ [f], ao', nn + 1, cap', by omega, by go_num, rfl, by omega, Lib.hid ⟨Htk.out.symm, A10.out.2.2⟩, Lib.hid ⟨A10.out.1, A10.out.2.1⟩⟩
          case measure => simp [intOf]; omega
    · obtain rfl : i = n1 := by omega
      have Fin : Hid (FieldsOwn wr w.heap.size (.slice ao nn cap) (unfieldM p.fields) ∧ Below w.heap.size w wr) := Lib.hid (by
        have e : p.fields.take i = p.fields := List.take_of_length_le (by rw [HS.out.2]; exact Nat.le_refl _)
        rw [← e, ← hacc.out.1]
        exact ⟨own_monoU hk.out.1 r1.out.2, (K1.out wr hk.out.2).2⟩)
      obtain ⟨y0, y1, y2, y3, y4, y5, _⟩ := (K1.out wr hk.out.2).1.cells
      clear hacc hk
      go_wp2
      go_ret
      exact ⟨_, rfl, Fin.out.1, Fin.out.2⟩
end Go.Proofs.YtidlpdiephlkhaaGreatDoor
