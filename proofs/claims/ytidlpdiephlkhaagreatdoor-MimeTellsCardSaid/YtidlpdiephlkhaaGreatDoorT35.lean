/-
  Texts of this proof, put together: R10A, R10B, R13U.
-/
import Derived.Test.YtidlpdiephlkhaaGreatDoorT13
import Derived.LoopIn
import Derived.Deep.LoopGhost
import Derived.Test.YtidlpdiephlkhaaGreatDoorT34
import Derived.Test.YtidlpdiephlkhaaGreatDoorT19
namespace Go.Proofs.YtidlpdiephlkhaaGreatDoor
open Go.RowKit

theorem r10low_any (c : UInt8) (w : World) : Calls Tryz.prog 69 #[.int .u8 (c.toNat : Int)] w fun e w' => e = .returned (.int .u8 ((lowH c).toNat : Int)) ∧ w' = w := by
  have hcl : c.toNat < 256 := c.toNat_lt
  by_cases h1 : 65 ≤ c.toNat
  · by_cases h2 : c.toNat ≤ 90
    · rw [low_in ⟨h1, h2⟩]
      go_enter Tryz.func69, Tryz.ntmps69
      go_wp2
      go_ret
      exact ⟨rfl, rfl⟩
    · rw [low_out (by omega)]
      go_enter Tryz.func69, Tryz.ntmps69
      go_wp2
      go_ret
      exact ⟨rfl, rfl⟩
  · rw [low_out (by omega)]
    go_enter Tryz.func69, Tryz.ntmps69
    go_wp2
    go_ret
    exact ⟨rfl, rfl⟩
theorem r10blank_any (c : UInt8) (w : World) : Calls Tryz.prog 88 #[.int .u8 (c.toNat : Int)] w fun e w' => e = .returned (.bool (blankH c)) ∧ w' = w := by
  rw [blank_val]
  by_cases h1 : c.toNat = 32
  · rw [decide_eq_true (.inl h1)]
    have f1 : ((c.toNat : Int) == 32) = true := by rw [beq_iff_eq]; omega
    clear h1
    go_enter Tryz.func88, Tryz.ntmps88
    go_wp2
    go_ret
    exact ⟨rfl, rfl⟩
  · have f1 : ((c.toNat : Int) == 32) = false := by rw [beq_eq_false_iff_ne]; omega
    by_cases h2 : c.toNat = 9
    · rw [decide_eq_true (.inr h2)]
      have f2 : ((c.toNat : Int) == 9) = true := by rw [beq_iff_eq]; omega
      clear h1 h2
      go_enter Tryz.func88, Tryz.ntmps88
      go_wp2
      go_ret
      exact ⟨rfl, rfl⟩
    · rw [decide_eq_false (by omega)]
      have f2 : ((c.toNat : Int) == 9) = false := by rw [beq_eq_false_iff_ne]; omega
      clear h1 h2
      go_enter Tryz.func88, Tryz.ntmps88
      go_wp2
      go_ret
      exact ⟨rfl, rfl⟩


set_option maxRecDepth 100000 in
set_option maxHeartbeats 2000000 in
theorem r10same_any (a b : ByteArray) (w : World) (hs : a.size ≤ 1000000) (hs2 : b.size ≤ 1000000) : Calls Tryz.prog 43 #[.string a, .string b] w fun e w' => e = .returned (.bool (sameH a.data.toList b.data.toList)) ∧ Below w.heap.size w w' := by
  by_cases hsz : a.size = b.size
  · have hall := same_all a b hsz
    have hno := same_step a b
    have HA := Lib.hid hall
    have HN := Lib.hid hno
    have hsz2 : a.size ≤ b.size := by omega
    have hq : ((a.size : Int) != (b.size : Int)) = false := by rw [bne_eq_false_iff_eq]; omega
    have Hsz := Lib.hid hsz
    clear hall hno hsz
    go_enter Tryz.func43, Tryz.ntmps43
    go_wp2
    go_loopw [5] (fun iv wr => ∃ i : Nat, i ≤ a.size ∧ iv = .int .i64 i ∧ Hid (∀ j (ha : j < a.size) (hb : j < b.size), j < i → lowH a[j] = lowH b[j]) ∧ Below w.heap.size w wr) (fun iv _ => a.size - (intOf iv).toNat)
    case atStart => exact ⟨0, by omega, rfl, Lib.hid (fun j _ _ h => by omega), Below.refl _ _⟩
    case round =>
      obtain ⟨i, hi, rfl, hj, hbr⟩ := hrel
      by_cases hlt : i < a.size
      · have hlb : i < b.size := by omega
        have hla := fun W => r10low_any a[i] W
        have hlo := fun W => r10low_any b[i] W
        have hno := HN.out i hlt hlb
        have hyes : lowH a[i] = lowH b[i] → ∀ j (ha : j < a.size) (hb : j < b.size), j < i + 1 → lowH a[j] = lowH b[j] := fun h j h1 h2 h3 => by
          rcases Nat.lt_or_ge j i with h4 | h4
          · exact hj.out j h1 h2 h4
          · obtain rfl : j = i := by omega
            exact h
        obtain ⟨x, hx⟩ : ∃ x, lowH a[i] = x := ⟨_, rfl⟩
        obtain ⟨y, hy⟩ : ∃ y, lowH b[i] = y := ⟨_, rfl⟩
        rw [hx] at hla
        rw [hy] at hlo
        rw [hx, hy] at hno hyes
        clear hx hy hj
        by_cases he : x = y
        · have Hy := Lib.hid (hyes he)
          have hne : ((x.toNat : Int) != (y.toNat : Int)) = false := by rw [he, bne_eq_false_iff_eq]
          clear hno hyes he
          go_wp2_with fail
          go_quiet (first | (with_reducible exact Calls.quiet_of_same (hla _)) | (with_reducible exact Calls.quiet_of_same (hlo _)))
          have hb2 := below_drewN hbr nq
          clear hbr
          go_wp2
          go_roundw
          case rel => exact ⟨i + 1, by omega, by go_num, Hy, hb2⟩
          case measure => simp [intOf]; omega
        · have Hy := Lib.hid (hno he)
          have hne : ((x.toNat : Int) != (y.toNat : Int)) = true := by
            rw [bne_iff_ne]
            exact fun e => he (UInt8.toNat_inj.1 (by omega))
          clear hno hyes he
          go_wp2_with fail
          go_quiet (first | (with_reducible exact Calls.quiet_of_same (hla _)) | (with_reducible exact Calls.quiet_of_same (hlo _)))
          have hb2 := below_drewN hbr nq
          clear hbr
          go_wp2
          go_ret
          exact ⟨by rw [Hy.out]; rfl, hb2⟩
      · have Hy := Lib.hid (HA.out fun j h1 h2 => hj.out j h1 h2 (by omega))
        clear hj
        go_wp2
        go_ret
        exact ⟨by rw [Hy.out]; rfl, hbr⟩
  · have hq : ((a.size : Int) != (b.size : Int)) = true := by rw [bne_iff_ne]; omega
    have Hy := Lib.hid (same_size a b hsz)
    clear hsz
    go_enter Tryz.func43, Tryz.ntmps43
    go_wp2
    go_ret
    exact ⟨by rw [Hy.out]; rfl, Below.refl _ _⟩
end Go.Proofs.YtidlpdiephlkhaaGreatDoor
namespace Go.Proofs.YtidlpdiephlkhaaGreatDoor
open Go.RowKit

set_option maxRecDepth 100000 in
set_option maxHeartbeats 4000000 in
theorem r10fields_any (B : Nat) (v u : Value) (l k : List FieldH) (w : World) (h : FieldsAt w B v l) (h2 : FieldsAt w B u k) (hB : B ≤ w.heap.size) :
    Calls Tryz.prog 20 #[v, u] w fun e w' => e = .returned (.bool (decide (l = k))) ∧ Below w.heap.size w w' := by
  obtain ⟨ao, cap, rfl, hc1, hc2, hat⟩ := h
  obtain ⟨bo, cap2, rfl, hd1, hd2, hat2⟩ := h2
  have Hat := Lib.hid hat
  have Hat2 := Lib.hid hat2
  obtain ⟨n, hn⟩ : ∃ n, l.length = n := ⟨_, rfl⟩
  obtain ⟨n2, hn2⟩ : ∃ n, k.length = n := ⟨_, rfl⟩
  have Hn := Lib.hid hn
  have Hn2 := Lib.hid hn2
  unfold maxLen at hc2 hd2
  rw [hn] at hc1
  rw [hn2] at hd1
  rw [hn, hn2]
  clear hat hat2 hn hn2
  by_cases hnn : n = n2
  · subst hnn
    go_enter Tryz.func20, Tryz.ntmps20
    go_wp2
    go_loopw [5] (fun iv wr => ∃ i : Nat, i ≤ n ∧ iv = .int .i64 i ∧ Hid (∀ j (hj : j < l.length) (hk : j < k.length), j < i → l[j] = k[j]) ∧ Below w.heap.size w wr) (fun iv _ => n - (intOf iv).toNat)
    case atStart => exact ⟨0, by omega, rfl, Lib.hid (fun j _ _ h => by omega), Below.refl _ _⟩
    case round =>
      obtain ⟨i, hi, rfl, hall, hbr⟩ := hrel
      by_cases hlt : i < n
      · have hil : i < l.length := by rw [Hn.out]; exact hlt
        have hik : i < k.length := by rw [Hn2.out]; exact hlt
        obtain ⟨g, off, rfl, hgB, z0, z1⟩ := Hat.out i hil
        obtain ⟨g2, off2, rfl, hgB2, x0, x1⟩ := Hat2.out i hik
        have hyes : Hid (l[i] = k[i] → ∀ j (hj : j < l.length) (hk : j < k.length), j < i + 1 → l[j] = k[j]) := Lib.hid fun h j hj hk h3 => by
          rcases Nat.lt_or_ge j i with h4 | h4
          · exact hall.out j hj hk h4
          · obtain rfl : j = i := by omega
            exact h
        have hno : Hid (l[i] ≠ k[i] → l ≠ k) := Lib.hid fun h e => h (by subst e; rfl)
        obtain ⟨f, hf⟩ : ∃ f, l[i] = f := ⟨_, rfl⟩
        obtain ⟨f2, hf2⟩ : ∃ f, k[i] = f := ⟨_, rfl⟩
        rw [hf] at z0 z1
        rw [hf2] at x0 x1
        rw [hf, hf2] at hyes hno
        have y0 := (hbr.cell (p := ⟨g, off + i * 2, none⟩) (by show g < w.heap.size; omega)).trans z0
        have y1 := (hbr.cell (p := ⟨g, off + i * 2 + 1, none⟩) (by show g < w.heap.size; omega)).trans z1
        have v0 := (hbr.cell (p := ⟨g2, off2 + i * 2, none⟩) (by show g2 < w.heap.size; omega)).trans x0
        have v1 := (hbr.cell (p := ⟨g2, off2 + i * 2 + 1, none⟩) (by show g2 < w.heap.size; omega)).trans x1
        have hgr : g < wr.heap.size := by have := hbr.size; omega
        have hgr2 : g2 < wr.heap.size := by have := hbr.size; omega
        clear z0 z1 x0 x1 hil hik hf hf2 hall
        by_cases he : f = f2
        · subst he
          have Hy := Lib.hid (hyes.out rfl)
          obtain ⟨X, hX⟩ : ∃ X, textQ f.1 = X := ⟨_, rfl⟩
          obtain ⟨Y, hY⟩ : ∃ Y, textQ f.2 = Y := ⟨_, rfl⟩
          rw [hX] at y0 v0
          rw [hY] at y1 v1
          clear hyes hno hX hY
          go_wp2_with fail
          go_quiet (fail)
          have hb2 := below_drewN hbr nq
          clear hbr y0 y1 v0 v1
          go_wp2
          go_roundw
          case rel => exact ⟨i + 1, by omega, by go_num, Hy, hb2⟩
          case measure => simp [intOf]; omega
        · have Hr : Hid (decide (l = k) = false) := Lib.hid (decide_eq_false (hno.out he))
          have hne : (f.1 == f2.1 && f.2 == f2.2) = false := by
            rw [Bool.eq_false_iff]
            intro h
            simp only [Bool.and_eq_true, beq_iff_eq] at h
            exact he (Prod.ext h.1 h.2)
          obtain ⟨X, hX⟩ : ∃ X, textQ f.1 = X := ⟨_, rfl⟩
          obtain ⟨Y, hY⟩ : ∃ Y, textQ f.2 = Y := ⟨_, rfl⟩
          obtain ⟨X2, hX2⟩ : ∃ X, textQ f2.1 = X := ⟨_, rfl⟩
          obtain ⟨Y2, hY2⟩ : ∃ Y, textQ f2.2 = Y := ⟨_, rfl⟩
          have e1 : (X.toList == X2.toList) = (f.1 == f2.1) := by rw [← hX, ← hX2, Lib.toList_data, Lib.toList_data]; rfl
          have e2 : (Y.toList == Y2.toList) = (f.2 == f2.2) := by rw [← hY, ← hY2, Lib.toList_data, Lib.toList_data]; rfl
          rw [hX] at y0
          rw [hX2] at v0
          rw [hY] at y1
          rw [hY2] at v1
          rw [← e1, ← e2] at hne
          clear hyes hno hX hY hX2 hY2 e1 e2 he
          cases q1 : (X.toList == X2.toList) with
          | true =>
            have q2 : (Y.toList == Y2.toList) = false := by rw [q1] at hne; exact hne
            clear hne
            go_wp2_with fail
            go_quiet (fail)
            have hb2 := below_drewN hbr nq
            clear hbr y0 y1 v0 v1
            go_wp2
            go_ret
            exact ⟨by rw [Hr.out]; rfl, hb2⟩
          | false =>
            clear hne
            go_wp2_with fail
            go_quiet (fail)
            have hb2 := below_drewN hbr nq
            clear hbr y0 y1 v0 v1
            go_wp2
            go_ret
            exact ⟨by rw [Hr.out]; rfl, hb2⟩
      · have Hr : Hid (decide (l = k) = true) := Lib.hid (decide_eq_true (List.ext_getElem (by rw [Hn.out, Hn2.out]) fun j hj hk => hall.out j hj hk (by have := Hn.out; omega)))
        clear hall
        go_wp2
        go_ret
        exact ⟨by rw [Hr.out]; rfl, hbr⟩
  · have Hr : Hid (decide (l = k) = false) := Lib.hid (decide_eq_false fun e => hnn (by rw [← Hn.out, ← Hn2.out, e]))
    have hq : ((n : Int) != (n2 : Int)) = true := by rw [bne_iff_ne]; omega
    clear hnn
    go_enter Tryz.func20, Tryz.ntmps20
    go_wp2
    go_ret
    exact ⟨by rw [Hr.out]; rfl, Below.refl _ _⟩
end Go.Proofs.YtidlpdiephlkhaaGreatDoor
namespace Go.Proofs.YtidlpdiephlkhaaGreatDoor
open Go.RowKit

end Go.Proofs.YtidlpdiephlkhaaGreatDoor
