/-
  The document's answer of layer 10: two rows of fields, the first of a name, what is right.
-/
import Derived.Test.YtneihcdeflfahaaDoorR10A
import Derived.Test.YtneihcdeflfahaaDoorHdB
import Derived.LoopIn
import Derived.Deep.LoopGhost
namespace Go.Proofs.YtneihcdeflfahaaDoor
open Go.RowKit

theorem text_inj {a b : TextH} (h : textQ a = textQ b) : a = b := congrArg (fun x : ByteArray => x.data.toList) h
set_option maxRecDepth 100000 in
set_option maxHeartbeats 4000000 in
theorem r10fields_any (B : Nat) (v u : Value) (l k : List FieldH) (w : World) (h : FieldsAt w B v l) (h2 : FieldsAt w B u k) (hB : B ≤ w.heap.size) :
    Calls Tryd.prog 21 #[v, u] w fun e w' => e = .returned (.bool (decide (l = k))) ∧ Below w.heap.size w w' := by
  obtain ⟨ao, cap, rfl, hc1, hc2, hat⟩ := h
  obtain ⟨bo, cap2, rfl, hd1, hd2, hat2⟩ := h2
  have Hat := Lib.hid hat
  have Hat2 := Lib.hid hat2
  obtain ⟨n, hn⟩ : ∃ n, l.length = n := ⟨_, rfl⟩
  obtain ⟨n2, hn2⟩ : ∃ n, k.length = n := ⟨_, rfl⟩
  have Hn := Lib.hid hn
  have Hn2 := Lib.hid hn2
  unfold maxLen at hc2 hd2
  rw [hn] at hc1
  rw [hn2] at hd1
  rw [hn, hn2]
  clear hat hat2 hn hn2
  by_cases hnn : n = n2
  · subst hnn
    go_enter Tryd.func21, Tryd.ntmps21
    go_wp2
    go_loopw [5] (fun iv wr => ∃ i : Nat, i ≤ n ∧ iv = .int .i64 i ∧ Hid (∀ j (hj : j < l.length) (hk : j < k.length), j < i → l[j] = k[j]) ∧ Below w.heap.size w wr) (fun iv _ => n - (intOf iv).toNat)
    case atStart => exact ⟨0, by omega, rfl, Lib.hid (fun j _ _ h => by omega), Below.refl _ _⟩
    case round =>
      obtain ⟨i, hi, rfl, hall, hbr⟩ := hrel
      by_cases hlt : i < n
      · have hil : i < l.length := by rw [Hn.out]; exact hlt
        have hik : i < k.length := by rw [Hn2.out]; exact hlt
        obtain ⟨g, off, rfl, hgB, z0, z1⟩ := Hat.out i hil
        obtain ⟨g2, off2, rfl, hgB2, x0, x1⟩ := Hat2.out i hik
        have hyes : Hid (l[i] = k[i] → ∀ j (hj : j < l.length) (hk : j < k.length), j < i + 1 → l[j] = k[j]) := Lib.hid fun h j hj hk h3 => by
          rcases Nat.lt_or_ge j i with h4 | h4
          · exact hall.out j hj hk h4
          · obtain rfl : j = i := by omega
            exact h
        have hno : Hid (l[i] ≠ k[i] → l ≠ k) := Lib.hid fun h e => h (by subst e; rfl)
        obtain ⟨f, hf⟩ : ∃ f, l[i] = f := ⟨_, rfl⟩
        obtain ⟨f2, hf2⟩ : ∃ f, k[i] = f := ⟨_, rfl⟩
        rw [hf] at z0 z1
        rw [hf2] at x0 x1
        rw [hf, hf2] at hyes hno
        have y0 := (hbr.cell (p := ⟨g, off + i * 2, none⟩) (by show g < w.heap.size; omega)).trans z0
        have y1 := (hbr.cell (p := ⟨g, off + i * 2 + 1, none⟩) (by show g < w.heap.size; omega)).trans z1
        have v0 := (hbr.cell (p := ⟨g2, off2 + i * 2, none⟩) (by show g2 < w.heap.size; omega)).trans x0
        have v1 := (hbr.cell (p := ⟨g2, off2 + i * 2 + 1, none⟩) (by show g2 < w.heap.size; omega)).trans x1
        have hgr : g < wr.heap.size := by have := hbr.size; omega
        have hgr2 : g2 < wr.heap.size := by have := hbr.size; omega
        clear z0 z1 x0 x1 hil hik hf hf2 hall
        by_cases he : f = f2
        · subst he
          have Hy := Lib.hid (hyes.out rfl)
          obtain ⟨X, hX⟩ : ∃ X, textQ f.1 = X := ⟨_, rfl⟩
          obtain ⟨Y, hY⟩ : ∃ Y, textQ f.2 = Y := ⟨_, rfl⟩
          rw [hX] at y0 v0
          rw [hY] at y1 v1
          clear hyes hno hX hY
          go_wp2_with fail
          go_quiet (fail)
          have hb2 := below_drewN hbr nq
          clear hbr y0 y1 v0 v1
          go_wp2
          go_roundw
          case rel => exact ⟨i + 1, by omega, by go_num, Hy, hb2⟩
          case measure => simp [intOf]; omega
        · have Hr : Hid (decide (l = k) = false) := Lib.hid (decide_eq_false (hno.out he))
          have hne : (f.1 == f2.1 && f.2 == f2.2) = false := by
            rw [Bool.eq_false_iff]
            intro h
            simp only [Bool.and_eq_true, beq_iff_eq] at h
            exact he (Prod.ext h.1 h.2)
          obtain ⟨X, hX⟩ : ∃ X, textQ f.1 = X := ⟨_, rfl⟩
          obtain ⟨Y, hY⟩ : ∃ Y, textQ f.2 = Y := ⟨_, rfl⟩
          obtain ⟨X2, hX2⟩ : ∃ X, textQ f2.1 = X := ⟨_, rfl⟩
          obtain ⟨Y2, hY2⟩ : ∃ Y, textQ f2.2 = Y := ⟨_, rfl⟩
          have e1 : (X.toList == X2.toList) = (f.1 == f2.1) := by rw [← hX, ← hX2, Lib.toList_data, Lib.toList_data]; rfl
          have e2 : (Y.toList == Y2.toList) = (f.2 == f2.2) := by rw [← hY, ← hY2, Lib.toList_data, Lib.toList_data]; rfl
          rw [hX] at y0
          rw [hX2] at v0
          rw [hY] at y1
          rw [hY2] at v1
          rw [← e1, ← e2] at hne
          clear hyes hno hX hY hX2 hY2 e1 e2 he
          cases q1 : (X.toList == X2.toList) with
          | true =>
            have q2 : (Y.toList == Y2.toList) = false := by rw [q1] at hne; exact hne
            clear hne
            go_wp2_with fail
            go_quiet (fail)
            have hb2 := below_drewN hbr nq
            clear hbr y0 y1 v0 v1
            go_wp2
            go_ret
            exact ⟨by rw [Hr.out]; rfl, hb2⟩
          | false =>
            clear hne
            go_wp2_with fail
            go_quiet (fail)
            have hb2 := below_drewN hbr nq
            clear hbr y0 y1 v0 v1
            go_wp2
            go_ret
            exact ⟨by rw [Hr.out]; rfl, hb2⟩
      · have Hr : Hid (decide (l = k) = true) := Lib.hid (decide_eq_true (List.ext_getElem (by rw [Hn.out, Hn2.out]) fun j hj hk => hall.out j hj hk (by have := Hn.out; omega)))
        clear hall
        go_wp2
        go_ret
        exact ⟨by rw [Hr.out]; rfl, hbr⟩
  · have Hr : Hid (decide (l = k) = false) := Lib.hid (decide_eq_false fun e => hnn (by rw [← Hn.out, ← Hn2.out, e]))
    have hq : ((n : Int) != (n2 : Int)) = true := by rw [bne_iff_ne]; omega
    clear hnn
    go_enter Tryd.func21, Tryd.ntmps21
    go_wp2
    go_ret
    exact ⟨by rw [Hr.out]; rfl, Below.refl _ _⟩
end Go.Proofs.YtneihcdeflfahaaDoor
