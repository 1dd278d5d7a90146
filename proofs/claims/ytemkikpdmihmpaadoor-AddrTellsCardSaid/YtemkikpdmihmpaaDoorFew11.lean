/-
  What a law's few, of and same of layer 11 come to.
-/
import Derived.Test.YtemkikpdmihmpaaDoorR11P
namespace Go.Proofs.YtemkikpdmihmpaaDoor
open Go.RowKit

/-- Addresses that are few and short. -/
def FewA (l : List AddrA) : Prop := l.length ≤ 80 ∧ SmallA 200 l
def FewPostA (l : List AddrA) (w : World) (e : Ending) (w' : World) : Prop := ∃ b : Bool, e = .returned (.bool b) ∧ (b = true → FewA l) ∧ w' = w

set_option maxRecDepth 100000 in
set_option maxHeartbeats 4000000 in
theorem few11_any (B : Nat) (v : Value) (l : List AddrA) (w : World) (h : AddrsAt w B v l) (hB : B ≤ w.heap.size) (hsm : SmallA maxLen l) :
    Calls Tryd.prog 6 #[v] w (FewPostA l w) := by
  obtain ⟨ao, cap, rfl, hc1, hc2, hat⟩ := h
  have Hat := Lib.hid hat
  have Hsm := Lib.hid hsm
  obtain ⟨n, hnl⟩ : ∃ n, l.length = n := ⟨_, rfl⟩
  have Hn := Lib.hid hnl
  unfold maxLen at hc2
  rw [hnl] at hc1 ⊢
  clear hat hsm hnl
  go_enter Tryd.func6, Tryd.ntmps6
  go_wp2
  go_loop [3] (fun iv => ∃ i : Nat, i ≤ n ∧ i ≤ 80 ∧ iv = .int .i64 i ∧ Hid (∀ j (hj : j < l.length), j < i → l[j].1.length ≤ 200 ∧ l[j].2.1.length ≤ 200 ∧ l[j].2.2.length ≤ 200)) (fun iv => n - (intOf iv).toNat)
  case atStart => exact ⟨0, by omega, by omega, rfl, Lib.hid (fun j _ h => by omega)⟩
  case round =>
    obtain ⟨i, hi, hi2, rfl, hg⟩ := hrel
    by_cases hlt : i < n
    · have hil : i < l.length := by rw [Hn.out]; exact hlt
      obtain ⟨g, off, rfl, hgB, z0, z1, z2⟩ := Hat.out i hil
      obtain ⟨s0, s1, s2⟩ := Hsm.out _ (List.getElem_mem hil)
      have hyes : Hid ((l[i].1.length ≤ 200 ∧ l[i].2.1.length ≤ 200 ∧ l[i].2.2.length ≤ 200) → ∀ j (hj : j < l.length), j < i + 1 → l[j].1.length ≤ 200 ∧ l[j].2.1.length ≤ 200 ∧ l[j].2.2.length ≤ 200) := Lib.hid fun h j hj h3 => by
        rcases Nat.lt_or_ge j i with h4 | h4
        · exact hg.out j hj h4
        · obtain rfl : j = i := by omega
          exact h
      obtain ⟨f, hf⟩ : ∃ f, l[i] = f := ⟨_, rfl⟩
      rw [hf] at z0 z1 z2 s0 s1 s2 hyes
      obtain ⟨X, hX⟩ : ∃ X, textQ f.1 = X := ⟨_, rfl⟩
      obtain ⟨Y, hY⟩ : ∃ Y, textQ f.2.1 = Y := ⟨_, rfl⟩
      obtain ⟨Z, hZ⟩ : ∃ Z, textQ f.2.2 = Z := ⟨_, rfl⟩
      have hXs : Hid (X.size = f.1.length ∧ Y.size = f.2.1.length ∧ Z.size = f.2.2.length) := Lib.hid (by rw [← hX, ← hY, ← hZ]; exact ⟨rfl, rfl, rfl⟩)
      have hXm : X.size ≤ 9223372036854775807 := by rw [hXs.out.1]; exact s0
      have hYm : Y.size ≤ 9223372036854775807 := by rw [hXs.out.2.1]; exact s1
      have hZm : Z.size ≤ 9223372036854775807 := by rw [hXs.out.2.2]; exact s2
      rw [hX] at z0
      rw [hY] at z1
      rw [hZ] at z2
      have hgr : g < w.heap.size := by omega
      clear s0 s1 s2 hX hY hZ hf hil hg
      by_cases h80 : 80 ≤ i
      · go_wp2
        go_ret
        exact ⟨false, rfl, (fun h => by cases h), rfl⟩
      by_cases hx : 200 < X.size
      · go_wp2
        go_ret
        exact ⟨false, rfl, (fun h => by cases h), rfl⟩
      by_cases hy : 200 < Y.size
      · go_wp2
        go_ret
        exact ⟨false, rfl, (fun h => by cases h), rfl⟩
      by_cases hz : 200 < Z.size
      · go_wp2
        go_ret
        exact ⟨false, rfl, (fun h => by cases h), rfl⟩
      have Hn2 := Lib.hid (hyes.out (by rw [← hXs.out.1, ← hXs.out.2.1, ← hXs.out.2.2]; omega))
      clear hyes hXs
      go_wp2
      go_round
      case rel => exact ⟨i + 1, by omega, by omega, by go_num, Hn2⟩
      case measure => simp [intOf]; omega
    · obtain rfl : i = n := by omega
      have Hf : Hid (FewA l) := Lib.hid ⟨by rw [Hn.out]; exact hi2, fun a ha => by
        obtain ⟨j, hj, rfl⟩ := List.mem_iff_getElem.1 ha
        exact hg.out j hj (by rw [← Hn.out]; exact hj)⟩
      clear hg
      go_wp2
      go_ret
      exact ⟨true, rfl, fun _ => Hf.out, rfl⟩

set_option maxRecDepth 100000 in
set_option maxHeartbeats 4000000 in
theorem of11_any (B : Nat) (v : Value) (l : List AddrA) (w : World) (h : AddrsAt w B v l) (hB : B ≤ w.heap.size) (hln : l.length ≤ 100000) :
    Calls Tryd.prog 9 #[v] w fun e w' => ∃ u, e = .returned u ∧ AddrsOwn 40 w' w.heap.size u l ∧ Below w.heap.size w w' := by
  obtain ⟨ao, cap, rfl, hc1, hc2, hat⟩ := h
  have Hat := Lib.hid hat
  obtain ⟨n, hnl⟩ : ∃ n, l.length = n := ⟨_, rfl⟩
  have Hn := Lib.hid hnl
  unfold maxLen at hc2
  rw [hnl] at hc1 hln ⊢
  clear hat hnl
  go_enter Tryd.func9, Tryd.ntmps9
  go_wp2
  go_loopw [3, 4] (fun ov iv wr => ∃ i : Nat, i ≤ n ∧ iv = .int .i64 i ∧ AddrsOwn 40 wr w.heap.size ov (l.take i) ∧ Below w.heap.size w wr) (fun _ iv _ => n - (intOf iv).toNat)
  case atStart => exact ⟨0, by omega, rfl, World.ownsRow_nil _ _ _ _, Below.refl _ _⟩
  case round =>
    obtain ⟨i, hi, rfl, hown, hbr⟩ := hrel
    by_cases hlt : i < n
    · have hil : i < l.length := by rw [Hn.out]; exact hlt
      obtain ⟨g, off, rfl, hgB, z0, z1, z2⟩ := Hat.out i hil
      have htk : l.take (i + 1) = l.take i ++ [l[i]] := by rw [List.take_succ_eq_append_getElem hil]
      obtain ⟨f, hf⟩ : ∃ f, l[i] = f := ⟨_, rfl⟩
      rw [hf] at z0 z1 z2 htk
      obtain ⟨X, hX⟩ : ∃ X, textQ f.1 = X := ⟨_, rfl⟩
      obtain ⟨Y, hY⟩ : ∃ Y, textQ f.2.1 = Y := ⟨_, rfl⟩
      obtain ⟨Z, hZ⟩ : ∃ Z, textQ f.2.2 = Z := ⟨_, rfl⟩
      rw [hX] at z0
      rw [hY] at z1
      rw [hZ] at z2
      have HX := Lib.hid (And.intro hX (And.intro hY hZ))
      have y0 := (hbr.cell (p := ⟨g, off + i * 3, none⟩) (by show g < w.heap.size; omega)).trans z0
      have y1 := (hbr.cell (p := ⟨g, off + i * 3 + 1, none⟩) (by show g < w.heap.size; omega)).trans z1
      have y2 := (hbr.cell (p := ⟨g, off + i * 3 + 2, none⟩) (by show g < w.heap.size; omega)).trans z2
      have hgr : g < wr.heap.size := by have := hbr.size; omega
      have hl9 : (l.take i).length = i := by rw [List.length_take, Hn.out]; omega
      obtain ⟨acc, hacc⟩ : ∃ acc, l.take i = acc := ⟨_, rfl⟩
      rw [hacc] at hown htk hl9
      have Htk := Lib.hid htk
      have Hl9 := Lib.hid hl9
      obtain ⟨ao2, cap2, rfl⟩ := row_slice hown
      rw [hl9] at hown ⊢
      obtain ⟨wa, hwa⟩ : ∃ wa, wr.alloc (.cells #[.string X, .string Y, .string Z] 40) = wa := ⟨_, rfl⟩
      have ha : Below wr.heap.size wr wa := by rw [← hwa]; exact (Below.refl _ _).alloc (Nat.le_refl _) _
      have hn9 : RAt wa wr.heap.size X Y Z := by rw [← hwa]; exact rat_new wr _ _ _
      have hcc : wa.cell? ⟨wr.heap.size, 0, none⟩ = some (.string (textQ f.1)) ∧ wa.cell? ⟨wr.heap.size, 1, none⟩ = some (.string (textQ f.2.1)) ∧ wa.cell? ⟨wr.heap.size, 2, none⟩ = some (.string (textQ f.2.2)) := by
        rw [hX, hY, hZ]
        exact ⟨hn9.cells.1, hn9.cells.2.1, hn9.cells.2.2.1⟩
      have Hoa : Hid (AddrsOwn 40 wa w.heap.size (.slice ao2 i cap2) acc) := Lib.hid (ownsRow_belowA hown ha)
      have Hba := Lib.hid (hbr.trans (ha.mono hbr.size))
      have Hcc := Lib.hid hcc
      have hi9 : i ≤ 100000 := by omega
      clear z0 z1 z2 hX hY hZ hil hf htk hl9 hown ha hn9 hcc hacc
      go_wp2_with (at_builtin; refine append_addrA 40 30 infoRAddr Tryd.underlying30 rfl _ _ rfl w.heap.size (.slice ao2 i cap2) acc f rfl Hoa.out Hba.out.size (by rw [Hl9.out]; omega) _ 1 rfl Hcc.out.1 Hcc.out.2.1 Hcc.out.2.2 ?_)
      intro v' w6 hown6 hgrow
      have b6 : Below w.heap.size w w6 := Hba.out.grown hgrow Hba.out.size (fun q hq => (Hoa.out.lt q hq).1)
      rw [← Htk.out] at hown6
      have O6 := Lib.hid hown6
      clear hown6 hgrow Hoa Hba Hcc
      go_wp2
      go_roundw
      case rel => exact ⟨i + 1, by omega, by go_num, O6.out, b6⟩
      case measure => simp [intOf]; omega
    · obtain rfl : i = n := by omega
      rw [List.take_of_length_le (by rw [Hn.out]; exact Nat.le_refl _)] at hown
      have Ho := Lib.hid hown
      clear hown
      go_wp2
      go_ret
      exact ⟨_, rfl, Ho.out, hbr⟩

set_option maxRecDepth 100000 in
set_option maxHeartbeats 4000000 in
theorem same11_any (B : Nat) (v u : Value) (l : List AddrA) (w : World) (h : AddrsAt w B v l) (h2 : AddrsAt w B u l) (hB : B ≤ w.heap.size) :
    Calls Tryd.prog 16 #[v, u] w fun e w' => e = .returned (.bool true) ∧ Below w.heap.size w w' := by
  obtain ⟨ao, cap, rfl, hc1, hc2, hat⟩ := h
  obtain ⟨bo, cap2, rfl, hd1, hd2, hat2⟩ := h2
  have Hat := Lib.hid hat
  have Hat2 := Lib.hid hat2
  obtain ⟨n, hn⟩ : ∃ n, l.length = n := ⟨_, rfl⟩
  have Hn := Lib.hid hn
  unfold maxLen at hc2 hd2
  rw [hn] at hc1 hd1 ⊢
  clear hat hat2 hn
  go_enter Tryd.func16, Tryd.ntmps16
  go_wp2
  go_loopw [5] (fun iv wr => ∃ i : Nat, i ≤ n ∧ iv = .int .i64 i ∧ Below w.heap.size w wr) (fun iv _ => n - (intOf iv).toNat)
  case atStart => exact ⟨0, by omega, rfl, Below.refl _ _⟩
  case round =>
    obtain ⟨i, hi, rfl, hbr⟩ := hrel
    by_cases hlt : i < n
    · have hil : i < l.length := by rw [Hn.out]; exact hlt
      obtain ⟨g, off, rfl, hgB, z0, z1, z2⟩ := Hat.out i hil
      obtain ⟨g2, off2, rfl, hgB2, x0, x1, x2⟩ := Hat2.out i hil
      obtain ⟨f, hf⟩ : ∃ f, l[i] = f := ⟨_, rfl⟩
      rw [hf] at z0 z1 z2 x0 x1 x2
      obtain ⟨X, hX⟩ : ∃ X, textQ f.1 = X := ⟨_, rfl⟩
      obtain ⟨Y, hY⟩ : ∃ Y, textQ f.2.1 = Y := ⟨_, rfl⟩
      obtain ⟨Z, hZ⟩ : ∃ Z, textQ f.2.2 = Z := ⟨_, rfl⟩
      rw [hX] at z0 x0
      rw [hY] at z1 x1
      rw [hZ] at z2 x2
      have y0 := (hbr.cell (p := ⟨g, off + i * 3, none⟩) (by show g < w.heap.size; omega)).trans z0
      have y1 := (hbr.cell (p := ⟨g, off + i * 3 + 1, none⟩) (by show g < w.heap.size; omega)).trans z1
      have y2 := (hbr.cell (p := ⟨g, off + i * 3 + 2, none⟩) (by show g < w.heap.size; omega)).trans z2
      have v0 := (hbr.cell (p := ⟨g2, off2 + i * 3, none⟩) (by show g2 < w.heap.size; omega)).trans x0
      have v1 := (hbr.cell (p := ⟨g2, off2 + i * 3 + 1, none⟩) (by show g2 < w.heap.size; omega)).trans x1
      have v2 := (hbr.cell (p := ⟨g2, off2 + i * 3 + 2, none⟩) (by show g2 < w.heap.size; omega)).trans x2
      have hgr : g < wr.heap.size := by have := hbr.size; omega
      have hgr2 : g2 < wr.heap.size := by have := hbr.size; omega
      clear z0 z1 z2 x0 x1 x2 hil hf hX hY hZ
      go_wp2_with fail
      go_quiet (fail)
      have hb2 := below_drewN hbr nq
      clear hbr y0 y1 y2 v0 v1 v2
      go_wp2
      go_roundw
      case rel => exact ⟨i + 1, by omega, by go_num, hb2⟩
      case measure => simp [intOf]; omega
    · go_wp2
      go_ret
      exact ⟨rfl, hbr⟩
end Go.Proofs.YtemkikpdmihmpaaDoor
