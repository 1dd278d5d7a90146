/-
  The document's answer of layer 13: what stands between a body's divisions.
-/
import Derived.Test.YtidlpdiephlkhaaGreatDoorT39
namespace Go.Proofs.YtidlpdiephlkhaaGreatDoor
open Go.RowKit

/-- What dividing comes to. -/
def CutPost13 (d : Option (List TextH)) (w : World) (e : Ending) (w' : World) : Prop :=
  ∃ ao nn cap, e = .returned (.tuple #[.slice ao nn cap, .bool d.isSome]) ∧ (∀ l, d = some l → TextsOwn w' w.heap.size (.slice ao nn cap) l) ∧ Below w.heap.size w w'
/-- What is known ahead of a place: what comes behind it is still to be divided. -/
def DivSt (mk raw : TextH) (P : List Nat) (d0 : Option (List TextH)) (k : Nat) (acc : List TextH) : Prop :=
  acc.length = k ∧ ∃ (h : k < P.length) (f : Nat), f + k = raw.length + 1 ∧ d0 = (divN f mk (raw.drop (P[k] + mk.length))).map (acc ++ ·)
section
variable {mk raw : TextH} {d0 : Option (List TextH)} {k : Nat} {acc : List TextH}
theorem places_len : (placesM mk raw).length ≤ raw.length + 1 := by
  unfold placesM
  have := List.length_filter_le (markedM mk raw) (List.range (raw.length + 1 - mk.length))
  rw [List.length_range] at this
  omega
theorem divst_end (hmk : mk ≠ []) (h : DivSt mk raw (placesM mk raw) d0 k acc) (hk : k + 1 = (placesM mk raw).length) {B : Nat} (hl : k < (placesM mk raw).length) (hB : (placesM mk raw)[k] + mk.length = B) :
    d0 = if raw.drop B = [45, 45, 13, 10] then some acc else none := by
  obtain ⟨_, h1, f, hf, e⟩ := h
  have hp := places_len (mk := mk) (raw := raw)
  obtain ⟨f', rfl⟩ : ∃ f', f = f' + 1 := ⟨f - 1, by omega⟩
  rw [div_end (places_end hmk h1 hk), hB] at e
  rw [e]
  split
  · simp
  · rfl
theorem divst_not (h13 : (13 : UInt8) ∉ mk) (h10 : (10 : UInt8) ∉ mk) (hmk : mk ≠ []) (h : DivSt mk raw (placesM mk raw) d0 k acc) (hk : k + 1 < (placesM mk raw).length)
    (hn : ((raw.drop ((placesM mk raw)[k] + mk.length)).take 2 ≠ [13, 10]) ∨ (placesM mk raw)[k + 1] - 2 < (placesM mk raw)[k] + mk.length + 2) : d0 = none := by
  obtain ⟨_, h1, f, hf, e⟩ := h
  have hp := places_len (mk := mk) (raw := raw)
  obtain ⟨f', rfl⟩ : ∃ f', f = f' + 1 := ⟨f - 1, by omega⟩
  obtain ⟨g1, g2⟩ := places_step h13 h10 hmk hk
  rw [div_not g2 (fun e2 => ?_)] at e
  · rw [e]
    rfl
  · rcases hn with hn | hn
    · rw [List.take_take] at e2
      have hl := congrArg List.length e2
      rw [List.length_take] at hl
      simp only [List.length_cons, List.length_nil] at hl
      rw [Nat.min_eq_left (by omega)] at e2
      exact hn e2
    · have hl := congrArg List.length e2
      rw [List.length_take, List.length_take] at hl
      simp only [List.length_cons, List.length_nil] at hl
      omega
theorem divst_step (h13 : (13 : UInt8) ∉ mk) (h10 : (10 : UInt8) ∉ mk) (hmk : mk ≠ []) (h : DivSt mk raw (placesM mk raw) d0 k acc) (hk : k + 1 < (placesM mk raw).length) {B : Nat} (hB : (placesM mk raw)[k] + mk.length = B)
    (h2 : (raw.drop B).take 2 = [13, 10]) (h3 : B + 2 ≤ (placesM mk raw)[k + 1] - 2) : DivSt mk raw (placesM mk raw) d0 (k + 1) (acc ++ [(raw.drop (B + 2)).take ((placesM mk raw)[k + 1] - 2 - (B + 2))]) := by
  obtain ⟨h0, h1, f, hf, e⟩ := h
  have hp := places_len (mk := mk) (raw := raw)
  obtain ⟨f', rfl⟩ : ∃ f', f = f' + 1 := ⟨f - 1, by omega⟩
  obtain ⟨g1, g2⟩ := places_step h13 h10 hmk hk
  rw [hB] at g2 e
  have et : (raw.drop B).take ((placesM mk raw)[k + 1] - 2 - B) = 13 :: 10 :: (raw.drop (B + 2)).take ((placesM mk raw)[k + 1] - 2 - (B + 2)) := by
    have e1 : raw.drop B = 13 :: 10 :: raw.drop (B + 2) := by
      have := List.take_append_drop 2 (raw.drop B)
      rw [h2, List.drop_drop] at this
      exact this.symm
    rw [e1, show (placesM mk raw)[k + 1] - 2 - B = ((placesM mk raw)[k + 1] - 2 - (B + 2)) + 1 + 1 by omega, List.take_succ_cons, List.take_succ_cons]
  rw [et] at g2
  rw [div_step g2] at e
  refine ⟨by rw [List.length_append, h0]; rfl, hk, f', by omega, ?_⟩
  rw [e]
  cases divN f' mk (raw.drop ((placesM mk raw)[k + 1] + mk.length)) with
  | none => rfl
  | some x => simp
end
theorem own_belowT {W W' : World} {B B0 : Nat} {v : Value} {l : List TextH} (h : TextsOwn W B v l) (hb : Below W.heap.size W W') (hB : B0 ≤ B) : TextsOwn W' B0 v l :=
  ⟨h.1, h.2.imp id fun ⟨g, cap, cur, h1, h2, h3, h4⟩ => ⟨g, cap, cur, h1, Nat.le_trans hB h2, (hb.block g (heap_lt h3)).trans h3, h4⟩⟩
theorem two_cut {s : ByteArray} {B : Nat} : ((s.extract B (B + 2)).toList == [13, 10]) = ((s.data.toList.drop B).take 2 == [13, 10]) := by
  rw [Lib.toList_data, cut_text, show B + 2 - B = 2 by omega]
  rfl
theorem tail_cut {s : ByteArray} {B : Nat} (h : B ≤ s.size) : (s.extract B s.size).toList = s.data.toList.drop B := by
  have hl : s.data.toList.length = s.size := rfl
  rw [Lib.toList_data, cut_text, List.take_of_length_le (by rw [List.length_drop]; omega)]
  rfl

set_option maxRecDepth 100000 in
set_option maxHeartbeats 16000000 in
theorem r13div_any (raw b : ByteArray) (w : World) (hs : raw.size ≤ 1000000) (hb : b.size ≤ 1000) (h13 : (13 : UInt8) ∉ b.data.toList) (h10 : (10 : UInt8) ∉ b.data.toList) :
    Calls Tryz.prog 66 #[.string raw, .string b] w (CutPost13 (divM (45 :: 45 :: b.data.toList) raw.data.toList) w) := by
  have hlr : raw.data.toList.length = raw.size := rfl
  have hlb : b.data.toList.length = b.size := rfl
  obtain ⟨M, hM⟩ : ∃ M : ByteArray, (⟨#[45, 45]⟩ : ByteArray) ++ b = M := ⟨_, rfl⟩
  obtain ⟨mk, hmk⟩ : ∃ mk : TextH, 45 :: 45 :: b.data.toList = mk := ⟨_, rfl⟩
  have hMd : M.data.toList = mk := by
    rw [← hM, ← hmk, ByteArray.data_append, Array.toList_append]
    rfl
  have hne : mk ≠ [] := by rw [← hmk]; simp
  have k13 : (13 : UInt8) ∉ mk := by
    rw [← hmk]
    intro h
    rcases List.mem_cons.1 h with h | h
    · cases h
    rcases List.mem_cons.1 h with h | h
    · cases h
    exact h13 h
  have k10 : (10 : UInt8) ∉ mk := by
    rw [← hmk]
    intro h
    rcases List.mem_cons.1 h with h | h
    · cases h
    rcases List.mem_cons.1 h with h | h
    · cases h
    exact h10 h
  have hMs : M.size = b.size + 2 := by
    have e : M.size = M.data.toList.length := rfl
    rw [e, hMd, ← hmk, List.length_cons, List.length_cons, hlb]
  have hml : mk.length = M.size := by rw [← hMd]; rfl
  obtain ⟨d0, hd0⟩ : ∃ d0, divM (45 :: 45 :: b.data.toList) raw.data.toList = d0 := ⟨_, rfl⟩
  rw [hd0]
  rw [hmk, div_places k13 k10 hne] at hd0
  have hln := r13lines_any raw M w hs (by omega)
  rw [hMd] at hln
  have g1 : ¬ 9223372036854775807 < 2 + b.size := by omega
  have HP := Lib.hid (fun k (h : k < (placesM mk raw.data.toList).length) => (places_mem h).2)
  have HN := Lib.hid (fun (d : Option (List TextH)) k acc (h : DivSt mk raw.data.toList (placesM mk raw.data.toList) d k acc) hk hn => divst_not k13 k10 hne h hk hn)
  have HS := Lib.hid (fun (d : Option (List TextH)) k acc (h : DivSt mk raw.data.toList (placesM mk raw.data.toList) d k acc) hk B hB h2 h3 => divst_step k13 k10 hne h hk (B := B) hB h2 h3)
  have HE := Lib.hid (fun (d : Option (List TextH)) k acc (h : DivSt mk raw.data.toList (placesM mk raw.data.toList) d k acc) hk B hl hB => divst_end hne h hk (B := B) hl hB)
  have HG := Lib.hid (fun k (h : k + 1 < (placesM mk raw.data.toList).length) => (places_step k13 k10 hne h).1)
  have HL := Lib.hid (places_len (mk := mk) (raw := raw.data.toList))
  obtain ⟨P, hP⟩ : ∃ P, placesM mk raw.data.toList = P := ⟨_, rfl⟩
  have hd1 : (if h : 2 ≤ P.length then (if P[0] = 0 then divN (raw.data.toList.length + 1) mk (raw.data.toList.drop mk.length) else none) else none) = d0 := by
    subst hP
    exact hd0
  simp only [hP] at hln HP HN HS HE HL HG
  clear hd0
  have HM := Lib.hid (And.intro hml (And.intro hmk hlr))
  have HMs := Lib.hid hMs
  clear hMd hne k13 k10 hml hmk h13 h10 hMs
  go_enter Tryz.func66, Tryz.ntmps66
  go_wp2_with fail
  refine hln.mono ?_
  rintro e w1 ⟨a1, n1, c1, rfl, hx⟩
  have hlen := hx.out.1.len
  obtain ⟨hn1, hc1, hc2⟩ := hlen
  unfold maxLen at hc2
  by_cases h2 : n1 < 2
  · rw [dif_neg (by omega)] at hd1
    have Fin : Hid (CutPost13 d0 w (.returned (.tuple #[.slice none 0 0, .bool false])) w1) := Lib.hid (by
      rw [← hd1]
      exact ⟨none, 0, 0, rfl, (fun l h => by cases h), hx.out.2⟩)
    have h2i : (n1 : Int) < 2 := by omega
    clear hd1 hx h2 HP HN HS HE hln hn1
    go_wp2
    go_ret2
    exact Fin.out
  · have hP2 : 2 ≤ P.length := by omega
    rw [dif_pos hP2] at hd1
    obtain ⟨g, rfl, hg, -, -, -, z0⟩ := hx.out.1.cells 0 (by omega)
    have h2i : ¬ ((n1 : Int) < 2) := by omega
    obtain ⟨p0, hp0⟩ : ∃ p0, P[0] = p0 := ⟨_, rfl⟩
    rw [hp0] at z0 hd1
    by_cases hz : p0 = 0
    · rw [if_pos hz] at hd1
      subst hz
      obtain ⟨nm, hnm⟩ : ∃ nm, nm + 1 = n1 := ⟨n1 - 1, by omega⟩
      have hwn : IntKind.i64.wrap ((n1 : Int) - 1) = (nm : Int) := by rw [IntWalk.i64_in _ (by omega)]; omega
      have St0 : Hid (DivSt mk raw.data.toList P d0 0 []) := Lib.hid (by
        refine ⟨rfl, by omega, raw.data.toList.length + 1, by omega, ?_⟩
        rw [← hd1, hp0, Nat.zero_add]
        cases divN (raw.data.toList.length + 1) mk (raw.data.toList.drop mk.length) <;> simp)
      have HB := Lib.hid hx.out.2
      have HI := Lib.hid hx.out.1
      have hnP := Lib.hid (And.intro hn1 hnm)
      have Hn1b : Hid (n1 ≤ 1000001) := Lib.hid (by have := HL.out; have := HM.out.2.2; omega)
      have hnm1 : nm < n1 := by omega
      clear hd1 hx hln hn1 hnm h2 hP2 hp0 hc2
      go_wp2
      go_loopw [8, 9] (fun ov kv wr => ∃ (k : Nat) (acc : List TextH) (ao : Option Addr) (nn cap : Nat), k ≤ nm ∧ kv = .int .i64 k ∧ ov = .slice ao nn cap ∧ Hid (DivSt mk raw.data.toList P d0 k acc) ∧ Hid (TextsOwn wr w1.heap.size (.slice ao nn cap) acc ∧ Below w1.heap.size w1 wr)) (fun _ kv _ => n1 - (intOf kv).toNat)
      case atStart => exact ⟨0, [], none, 0, 0, by omega, rfl, rfl, St0, Lib.hid ⟨World.ownsRow_nil _ _ _ _, Below.refl _ _⟩⟩
      case round =>
        obtain ⟨k, acc, ao, nn, cap, hk, rfl, rfl, hst, hown⟩ := hrel
        have hkP : k < P.length := by have := hnP.out; omega
        have hrow : Hid (∀ W, Below w1.heap.size w1 W → ∀ i (hi : i < P.length), W.cell? ⟨g, i, none⟩ = some (.int .i64 (P[i] : Int))) := Lib.hid fun W hW i hi => by
          obtain ⟨g', e, _, _, _, _, z⟩ := (HI.out).cells i hi
          cases e
          exact (hW.cell (p := ⟨g, i, none⟩) (cell_ltP z)).trans z
        have z1 := hrow.out wr hown.out.2 k hkP
        have hpk := HP.out k hkP
        obtain ⟨B, hB⟩ : ∃ B, P[k] + mk.length = B := ⟨_, rfl⟩
        rw [HM.out.2.2, hB] at hpk
        have hwB : IntKind.i64.wrap ((P[k] : Int) + (M.size : Int)) = (B : Int) := by
          have := HM.out.1
          have := HMs.out
          rw [IntWalk.i64_in _ (by omega)]
          omega
        have hlt : (k : Int) < (n1 : Int) := by omega
        by_cases hlast : k = nm
        · have hki : ((k : Int) == (nm : Int)) = true := by rw [beq_iff_eq]; omega
          have he := HE.out d0 k acc hst.out (by have := hnP.out; omega) B hkP hB
          have htl := tail_cut (s := raw) hpk
          obtain ⟨X, hX⟩ : ∃ X, raw.extract B raw.size = X := ⟨_, rfl⟩
          rw [hX] at htl
          have hq : (X.toList == [45, 45, 13, 10]) = d0.isSome := by
            rw [htl, he]
            by_cases h : raw.data.toList.drop B = [45, 45, 13, 10]
            · rw [if_pos h, h]
              rfl
            · rw [if_neg h]
              exact beq_eq_false_iff_ne.2 h
          obtain ⟨bb, hbb⟩ : ∃ bb, d0.isSome = bb := ⟨_, rfl⟩
          rw [hbb] at hq
          have Fin : Hid (∀ W, Below wr.heap.size wr W → CutPost13 d0 w (.returned (.tuple #[.slice ao nn cap, .bool bb])) W) := Lib.hid fun W hW => by
            refine ⟨ao, nn, cap, by rw [hbb], fun l hl => ?_, ?_⟩
            · rw [hl] at he
              have : l = acc := by
                split at he
                · exact Option.some.inj he
                · cases he
              rw [this]
              have hbz := HB.out.size
              exact own_belowT hown.out.1 hW hbz
            · have hbw := HB.out.trans (hown.out.2.mono HB.out.size)
              exact hbw.trans (hW.mono hbw.size)
          obtain ⟨pk, hpk2⟩ : ∃ pk, P[k] = pk := ⟨_, rfl⟩
          rw [hpk2] at z1 hwB
          clear hst hown HI HN HS HE HP HG HL hrow he htl hbb hB hpk2 hkP
          subst hlast
          clear hki
          go_wp2_with fail
          go_quiet (fail)
          have hfin := Fin.out _ (below_drewN (Below.refl wr.heap.size wr) nq)
          go_wp2
          go_ret2
          exact hfin
        · have hki : ((k : Int) == (nm : Int)) = false := by rw [beq_eq_false_iff_ne]; omega
          have hk1P : k + 1 < P.length := by have := hnP.out; omega
          have z2 := hrow.out wr hown.out.2 (k + 1) hk1P
          have hgap := HG.out k hk1P
          have hpn := HP.out (k + 1) hk1P
          rw [HM.out.2.2] at hpn
          rw [hB] at hgap
          obtain ⟨B2, hB2⟩ : ∃ B2, B + 2 = B2 := ⟨_, rfl⟩
          obtain ⟨pn, hpn2⟩ : ∃ pn, P[k + 1] = pn := ⟨_, rfl⟩
          rw [hpn2] at z2 hgap hpn
          obtain ⟨Q, hQ⟩ : ∃ Q, Q + 2 = pn := ⟨pn - 2, by omega⟩
          obtain ⟨k1, hk1⟩ : ∃ k1, k + 1 = k1 := ⟨_, rfl⟩
          have hwB2 : IntKind.i64.wrap ((B : Int) + 2) = (B2 : Int) := by rw [IntWalk.i64_in _ (by omega)]; omega
          have hwQ : IntKind.i64.wrap ((pn : Int) - 2) = (Q : Int) := by rw [IntWalk.i64_in _ (by omega)]; omega
          have hwk : IntKind.i64.wrap ((k : Int) + 1) = (k1 : Int) := by have := Hn1b.out; rw [IntWalk.i64_in _ (by omega)]; omega
          have hk1n : k1 < n1 := by omega
          have hB2i : (B2 : Int) ≤ (raw.size : Int) := by omega
          have hBB : B ≤ B2 := by omega
          have hB2s : B2 ≤ raw.size := by omega
          have hcut := two_cut (s := raw) (B := B)
          rw [hB2] at hcut
          have HNo : Hid (d0 = none → ∀ W, Below wr.heap.size wr W → CutPost13 d0 w (.returned (.tuple #[.slice none 0 0, .bool false])) W) := Lib.hid fun h W hW => by
            have hbw := HB.out.trans (hown.out.2.mono HB.out.size)
            rw [h]
            exact ⟨none, 0, 0, rfl, (fun l h => by cases h), hbw.trans (hW.mono hbw.size)⟩
          have HQ := Lib.hid (And.intro hQ (And.intro hB2 hk1))
          rw [hk1] at z2
          obtain ⟨pk, hpk2⟩ : ∃ pk, P[k] = pk := ⟨_, rfl⟩
          by_cases hcr : (raw.data.toList.drop B).take 2 = [13, 10]
          · have hq : ((raw.extract B B2).toList == [13, 10]) = true := by rw [hcut, hcr]; rfl
            by_cases hlo : Q < B2
            · have hd := HN.out d0 k acc hst.out hk1P (.inr (by rw [hpn2, hB]; omega))
              have Fin := Lib.hid (HNo.out hd wr (Below.refl _ _))
              have hloi : (Q : Int) < (B2 : Int) := by omega
              rw [hpk2] at z1 hwB
              clear hst hown HI HN HS HE HP HG HL hrow hB hpk2 hpn2 hkP hk1P hlast hd HNo hcut hcr hlo hQ hB2 hk1 hgap
              clear hpn
              go_wp2
              go_ret2
              exact Fin.out
            · have hst2 := HS.out d0 k acc hst.out hk1P B hB hcr (by rw [hpn2]; omega)
              have hloi : (B2 : Int) ≤ (Q : Int) := by omega
              have hQs : Q ≤ raw.size := by omega
              have hBQ : B2 ≤ Q := by omega
              have hct := cut_text raw B2 Q
              have hp : (raw.data.toList.drop (B + 2)).take (P[k + 1] - 2 - (B + 2)) = (raw.data.toList.drop B2).take (Q - B2) := by rw [hB2, hpn2, show pn - 2 = Q by omega]
              rw [hp, hk1] at hst2
              obtain ⟨t, ht⟩ : ∃ t, (raw.data.toList.drop B2).take (Q - B2) = t := ⟨_, rfl⟩
              rw [ht] at hst2 hct
              obtain ⟨X, hX⟩ : ∃ X, raw.extract B2 Q = X := ⟨_, rfl⟩
              have hXt : X = textQ t := by rw [← hX, hct]
              have hal : acc.length ≤ 10000000 := by have := hst.out.1; have := Hn1b.out; omega
              have Hx := Lib.hid (And.intro hXt (And.intro hal hst2))
              rw [hpk2] at z1 hwB
              clear hst HI HN HS HE HP HG HL hrow hB hpk2 hpn2 hkP hk1P hlast HNo hcut hcr hlo hQ hB2 hk1 hgap hct hp ht hXt hal hst2
              clear hpn
              go_wp2_with (at_builtin; refine HeldW.of ?_)
              unfold HeldW
              have hB1 : w1.heap.size ≤ (wr.alloc (.cells #[.string X] 9)).heap.size := by have := hown.out.2.size; simp; omega
              have h0 : (wr.alloc (.cells #[.string X] 9)).cell? ⟨wr.heap.size, 0, none⟩ = some (.string (textQ t)) := by
                rw [← Hx.out.1]
                exact (Boxed.new wr 9 (.string X)).cell
              refine wpList_append_text rfl _ _ rfl w1.heap.size (.slice ao nn cap) acc t rfl (World.ownsRow.alloc hown.out.1 (.cells #[.string X] 9)) hB1 Hx.out.2.1 wr.heap.size 1 rfl h0 ?_
              intro v' w8 ho hg8
              obtain ⟨ao', cap', rfl⟩ := row_slice ho
              have hF := ((hown.out.2).alloc hown.out.2.size (.cells #[.string X] 9)).grown hg8 hB1 (fun k hk => (row_block (World.ownsRow.alloc hown.out.1 (.cells #[.string X] 9)) hk).1)
              obtain ⟨n2, hn2⟩ : ∃ n2, (acc ++ [t]).length = n2 := ⟨_, rfl⟩
              rw [hn2] at ho ⊢
              have A8 := Lib.hid (And.intro ho hF)
              clear ho hg8 hF hB1 h0 hn2 hown
              go_wp2
              go_roundw
              case rel => exact ⟨k1, acc ++ [t], ao', n2, cap', by have := hnP.out; omega, by rfl, rfl, Lib.hid Hx.out.2.2, Lib.hid A8.out⟩
              case measure => have := HQ.out.2.2; simp [intOf]; omega
          · have hq : ((raw.extract B B2).toList == [13, 10]) = false := by rw [hcut, beq_eq_false_iff_ne]; exact hcr
            have hd := HN.out d0 k acc hst.out hk1P (.inl (by rw [HM.out.1, ← HM.out.1, hB]; exact hcr))
            have Fin := Lib.hid (HNo.out hd wr (Below.refl _ _))
            rw [hpk2] at z1 hwB
            clear hst hown HI HN HS HE HP HG HL hrow hB hpk2 hpn2 hkP hk1P hlast hd HNo hcut hcr hQ hB2 hk1 hgap z2
            clear hpn
            go_wp2
            go_ret2
            exact Fin.out
    · rw [if_neg hz] at hd1
      have Fin : Hid (CutPost13 d0 w (.returned (.tuple #[.slice none 0 0, .bool false])) w1) := Lib.hid (by
        rw [← hd1]
        exact ⟨none, 0, 0, rfl, (fun l h => by cases h), hx.out.2⟩)
      have hzi : ((p0 : Int) != 0) = true := by simpa using (fun e : (p0 : Int) = 0 => hz (by omega))
      clear hd1 hx h2 HP HN HS HE hln hn1 hz hp0
      go_wp2
      go_ret2
      exact Fin.out
end Go.Proofs.YtidlpdiephlkhaaGreatDoor
